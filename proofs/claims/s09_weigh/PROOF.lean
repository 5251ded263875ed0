import PyProof.Rows.All
import Wide.All
import OpenK.AllK
import Wide.FinOn
import PyProof.EqAt
import PyProof.EqKinds
import PyProof.TupleCall
import KE.BitLaws
import PyProof.StationsW
import PyProof.InstStoreFacts
import PyProof.ExcInit
import PyProof.ExcArgsOwn
import PyProof.InstLoad
import PyProof.ExcAttrAll.Exception
import PyProof.ExcBaseAll.Exception
import PyProof.RulesAs
import KE.KMinKey
import Open.SpecLaws
import KE.OsHead
import KE.OsGo
import KE.SpHead
import KE.OsShapes
import PySem.Challenge.RW_celltexts_s09_weigh
set_option Elab.async false
set_option linter.all false
theorem dt_{p:Prop}[Decidable p](h:p):decide p=true:=decide_eq_true h
theorem ot_{p:Prop}[Decidable p](h:decide p=true):p:=of_decide_eq_true h
theorem df_{p:Prop}[Decidable p](h:¬p):decide p=false:=decide_eq_false h
section
set_option maxRecDepth 100000
namespace L2
open PySem PySem.Spec PyProof.Rows
abbrev Key:=Sum Int Str
def jag:Key->Value->Bool
 | .inl k,v=>Value.isInt k v
 | .inr x,v=>Value.isStrOf x v
def jjq(w:World):Key->Int
 | .inl k=>hashInt k
 | .inr x=>hashStr w x
theorem ve:∀ {k:Key} {v:Value},jag k v=true->(∃ i t,k=Sum.inl i/\v=Value.int i t)\/(∃ x t,k=Sum.inr x/\v=Value.str x t)
 | .inl i,v,h=>by
  obtain ⟨t,e⟩:=Value.isInt_shape (k:=i) (v:=v) h;exact .inl ⟨i,t,rfl,e⟩
 | .inr x,v,h=>by
  obtain ⟨t,e⟩:=Value.isStrOf_shape (x:=x) (v:=v) h;exact .inr ⟨x,t,rfl,e⟩
theorem jh3(i:Int)(t:Tok):jag (.inl i) (.int i t)=true:=by simp [jag,Value.isInt]
theorem jvj(x:Str)(t:Tok):jag (.inr x) (.str x t)=true:=by simp [jag,Value.isStrOf]
theorem j2x(a b:Int):decide ((Sum.inl a:Key)=Sum.inl b)=(a == b):=by
 by_cases e:a=b
 ·subst e;simp
 ·have h:¬ (Sum.inl a:Key)=Sum.inl b:=λq=>e (Sum.inl.inj q);rw [df_ h];exact (beq_eq_false_iff_ne.mpr e).symm
theorem j2u(a b:Str):decide ((Sum.inr a:Key)=Sum.inr b)=decide (a=b):=by
 by_cases e:a=b
 ·subst e;simp
 ·have h:¬ (Sum.inr a:Key)=Sum.inr b:=λq=>e (Sum.inr.inj q);rw [df_ h,df_ e]
theorem j2w(a:Int)(b:Str):decide ((Sum.inl a:Key)=Sum.inr b)=false:=df_ (λq=>nomatch q)
theorem j2v(a:Str)(b:Int):decide ((Sum.inr a:Key)=Sum.inl b)=false:=df_ (λq=>nomatch q)
def yq(prog:Program)(w:World):PySem.KeyKind prog w Key where
 is:=jag
 hash:=jjq w
 inj:=λv a b ha hb=>by
  rcases ve ha with ⟨i,t,rfl,rfl⟩ | ⟨x,t,rfl,rfl⟩
  ·rcases ve hb with ⟨j,u,rfl,e⟩ | ⟨y,u,rfl,e⟩
   ·injection e with e1 _;rw [e1]
   ·exact nomatch e
  ·rcases ve hb with ⟨j,u,rfl,e⟩ | ⟨y,u,rfl,e⟩
   ·exact nomatch e
   ·injection e with e1 _;rw [e1]
 byValue:=λk v h=>by
  rcases ve h with ⟨i,t,rfl,rfl⟩ | ⟨x,t,rfl,rfl⟩ <;> rfl
 pyHash:=λhv h=>by
  rcases ve hv with ⟨i,t,rfl,rfl⟩ | ⟨x,t,rfl,rfl⟩
  ·exact wpAny_pyHash_int h
  ·exact wpAny_pyHash_str h
 eqBool:=λhu hv h=>by
  rcases ve hu with ⟨i,t,rfl,rfl⟩ | ⟨x,t,rfl,rfl⟩
  ·rcases ve hv with ⟨j,u,rfl,rfl⟩ | ⟨y,u,rfl,rfl⟩
   ·rw [j2x] at h;exact wpAny_eqBool_int h
   ·rw [j2w] at h;exact SeqAt.EqAt.int_str i t y u _ _ _ _ h
  ·rcases ve hv with ⟨j,u,rfl,rfl⟩ | ⟨y,u,rfl,rfl⟩
   ·rw [j2v] at h;exact SeqAt.EqAt.str_int x t j u _ _ _ _ h
   ·rw [j2u] at h;exact wpAny_eqBool_str h
 «strs»:=λk x t v h=>by
  rcases ve h with ⟨i,u,rfl,e⟩ | ⟨y,u,rfl,e⟩
  ·exact nomatch e
  ·injection e with e1 _;subst e1;cases v <;> rfl
theorem jps(prog:Program)(w:World)(i:Int)(t:Tok):(yq prog w).is (.inl i) (.int i t)=true:=jh3 i t
theorem jpr(prog:Program)(w:World)(x:Str)(t:Tok):(yq prog w).is (.inr x) (.str x t)=true:=jvj x t
inductive V where
 | non | bl (b:Bool) | int (i:Int) | str (x:Str) | byt (b:Array UInt8) | flt (b:UInt64) | ref (a:Addr) | ty (n:String)
 deriving DecidableEq
def xm:V->Value->Prop
 | .non,u=>u=Value.none
 | .bl b,u=>u=Value.bool b
 | .int i,u=>∃ t,u=Value.int i t
 | .str x,u=>∃ t,u=Value.str x t
 | .byt b,u=>∃ t,u=Value.bytes b t
 | .flt b,u=>∃ t,u=Value.float b t
 | .ref a,u=>u=Value.ref a
 | .ty n,u=>u=Value.type n
abbrev qw:List V->List Value->Prop:=Paired xm
theorem qw.length{xs:List V}{us:List Value}(r:qw xs us):xs.length=us.length:=Paired.length r
theorem qw.get:∀ {xs:List V} {us:List Value} {i:Nat} {x:V},qw xs us->xs[i]? = some x->∃ u,us[i]? = some u/\xm x u
 | _,_,_,_,.nil,e=>by simp at e
 | _,_,0,_,.cons r _,e=>by simp at e;subst e;exact ⟨_,rfl,r⟩
 | _,_,i + 1,x,.cons _ t,e=>by
  obtain ⟨u,h1,h2⟩:=qw.get (i:=i) (x:=x) t (by simpa using e);exact ⟨u,by simpa using h1,h2⟩
theorem qw.append:∀ {xs ys:List V} {us ws:List Value},qw xs us->qw ys ws->qw (xs ++ ys) (us ++ ws)
 | _,_,_,_,.nil,s=>s
 | _,_,_,_,.cons r t,s=>.cons r (qw.append t s)
theorem qw.take:∀ {xs:List V} {us:List Value} (n:Nat),qw xs us->qw (xs.take n) (us.take n)
 | _,_,0,_=>.nil
 | _,_,_ + 1,.nil=>.nil
 | _,_,n + 1,.cons r t=>.cons r (qw.take n t)
theorem qw.drop:∀ {xs:List V} {us:List Value} (n:Nat),qw xs us->qw (xs.drop n) (us.drop n)
 | _,_,0,r=>r
 | _,_,_ + 1,.nil=>.nil
 | _,_,n + 1,.cons _ t=>qw.drop n t
def vw:Option V->Option Value->Prop
 | some v,some u=>xm v u
 | none,none=>True
 | _,_=>False
def KV{κ:Type}:List (κ×V)->List (κ×Value)->Prop:=Paired λ(p:κ×V) (q:κ×Value)=>p.1=q.1/\xm p.2 q.2
def kV:Key->V
 | .inl i=>.int i
 | .inr x=>.str x
inductive HO where
 | lst (xs:List V)
 | tup (xs:List V)
 | dK (ae:List (Key×V)) | dT (ae:List (List Key×V))
 | set (S:Int->Bool) (n:Nat)
 | ins (C dx:Addr) (fs:List (Str×V))
 | own (x:Addr)
 | xd (fs:List (Str×V))
 | met (f x:Addr)
 | rng (lo hi:Int)
 | frz (o:Obj) (u:HO)
 | tbl (ps:Array Value)
 | ext (φ:Heap->Prop)
abbrev Hp:=Addr->Option HO
def upd(H:Hp)(a:Addr)(o:HO):Hp:=λb=>if b=a then some o else H b
theorem jd{H:Hp}{a:Addr}{o:HO}:upd H a o a=some o:=by unfold upd;rw [if_pos rfl]
theorem jm{H:Hp}{a b:Addr}{o:HO}(h:b≠a):upd H a o b=H b:=by unfold upd;rw [if_neg h]
theorem jb9{H:Hp}{a:Addr}{o u:HO}:upd (upd H a o) a u=upd H a u:=by
 funext b;unfold upd;split <;> rfl
theorem qu{H:Hp}{a b:Addr}{o:HO}(h:H a=some o)(h':H b=none):a≠b:=by
 intro e;subst e;rw [h] at h';cases h'
section
variable(P:Program)(w:World)
def y_(H:Hp)(h:Heap)(a:Addr):HO->Prop
 | .lst xs=>xs.length<=sizeLine/\∃ (ad:List Value) (n:Nat),qw xs ad/\h.get? a=some { cls:=.type "list",data:=.seq ad.toArray n }
 | .tup xs=>xs.length<=sizeLine/\∃ ad:List Value,qw xs ad/\IsTup h a ad.toArray
 | .dK ae=>ae.length<=sizeLine/\(a == sysModules)=false/\∃ vs,KV ae vs/\h.DictOf (yq P w) a vs
 | .dT ae=>ae.length<=sizeLine/\(a == sysModules)=false/\∃ xs:List (List Key×Addr×Value),
   Paired (λ(p:List Key×V) (q:List Key×Addr×Value)=>p.1=q.1/\H q.2.1=some (.tup (p.1.map kV))/\xm p.2 q.2.2) ae xs/\
   ∃ o es ep,h.get? a=some o/\o.ExactDict/\o.data = .dict es ep/\es.toList=xs.map (entryOfKey (tupleKind (yq P w)))/\(xs.map (·.1)).Nodup
 | .set S n=>h.SetOf (intKind P w) a S n
 | .ins C dx fs=>H dx=some (.own a)/\fs.length<=1000/\dx≠a/\h.get? a=some (PySem.W.instObj C dx)/\
   ∃ mA,h.Ns1 dx mA/\(∀ f,vw (fs.lookup f) (mA f))/\PySem.Within mA (fs.map (·.1))
 | .own _=>∃ o,h.get? a=some o
 | .xd fs=>∃ mA,h.Ns1 a mA/\∀ f,vw (fs.lookup f) (mA f)
 | .rng lo hi=>∃ t u v,h.get? a=some { cls:=.type "range",data:=.fields #[.int lo t,.int hi u,.int 1 v] }
 | .frz o u=>h.get? a=some o/\y_ H h a u
 | .tbl ps=>h.get? a=some { cls:=.none,data:=.fields ps }
 | .met f x=>h.get? a=some (PySem.W.methodObj (.ref f) (.ref x))
 | .ext φ=>φ h/\(∃ o,h.get? a=some o)/\∀ h1 h2:Heap,φ h1->(∀ o,h1.get? a=some o->h2.get? a=some o)->φ h2
def HOk(H:Hp)(h:Heap):Prop:=∀ a o,H a=some o->y_ P w H h a o
end
section
variable{P:Program}{w:World}{H H':Hp}{h h':Heap}{a:Addr}{o:HO}
theorem y_.lt(x:y_ P w H h a o):a < h.objs.size:=by
 cases o with
 | lst xs=>obtain ⟨_,_,_,_,e⟩:=x;exact Heap.lt_size e
 | tup xs=>obtain ⟨_,_,_,p⟩:=x;exact p.lt
 | dK ae=>obtain ⟨_,_,_,_,o,_,_,e,_⟩:=x;exact Heap.lt_size e
 | dT ae=>obtain ⟨_,_,_,_,o,_,_,e,_⟩:=x;exact Heap.lt_size e
 | set S n=>obtain ⟨o,_,_,_,e,_⟩:=x;exact Heap.lt_size e
 | ins C dx fs=>obtain ⟨_,_,_,e,_⟩:=x;exact Heap.lt_size e
 | own y=>obtain ⟨_,e⟩:=x;exact Heap.lt_size e
 | xd fs=>obtain ⟨_,⟨_,_,_,e,_⟩,_⟩:=x;exact Heap.lt_size e
 | rng lo hi=>obtain ⟨_,_,_,e⟩:=x;exact Heap.lt_size e
 | frz ob u=>obtain ⟨e,_⟩:=x;exact Heap.lt_size e
 | tbl ps=>exact Heap.lt_size (show h.get? a=some _ from x)
 | met f y=>exact Heap.lt_size (show h.get? a=some _ from x)
 | ext φ=>obtain ⟨_,⟨_,e⟩,_⟩:=x;exact Heap.lt_size e
theorem Paired.mapP{α β:Type}{F G:α->β->Prop}:∀ {l₁:List α} {l₂:List β},Paired F l₁ l₂->(∀ a b,F a b->G a b)->Paired G l₁ l₂
 | _,_,.nil,_=>.nil
 | _,_,.cons r t,f=>.cons (f _ _ r) (Paired.mapP t f)
theorem y_.stay(x:y_ P w H h a o)(k:∀ b u,(b=a\/H b=some (.own a))->h.get? b=some u->h'.get? b=some u)
  (ho:∀ b,H b=some (.own a)->H' b=some (.own a)) (ht:∀ b xs,H b=some (.tup xs)->H' b=some (.tup xs)):y_ P w H' h' a o:=by
 induction o with
 | lst xs=>obtain ⟨z,ad,n,r,e⟩:=x;exact ⟨z,ad,n,r,k _ _ (.inl rfl) e⟩
 | tup xs=>obtain ⟨z,ad,r,ob,e,c⟩:=x;exact ⟨z,ad,r,ob,k _ _ (.inl rfl) e,c⟩
 | dK ae=>obtain ⟨z,y,vs,r,ob,es,ep,e,c⟩:=x;exact ⟨z,y,vs,r,ob,es,ep,k _ _ (.inl rfl) e,c⟩
 | dT ae =>
  obtain ⟨z,y,xs,r,ob,es,ep,e,c⟩:=x;exact ⟨z,y,xs,Paired.mapP r λp q z=>⟨z.1,ht _ _ z.2.1,z.2.2⟩,ob,es,ep,k _ _ (.inl rfl) e,c⟩
 | set S n=>obtain ⟨ob,es,ep,t,e,c⟩:=x;exact ⟨ob,es,ep,t,k _ _ (.inl rfl) e,c⟩
 | ins C dx fs =>
  obtain ⟨d,z,ne,e,mA,⟨od,es,ep,e2,c⟩,r⟩:=x;exact ⟨ho _ d,z,ne,k _ _ (.inl rfl) e,mA,⟨od,es,ep,k _ _ (.inr d) e2,c⟩,r⟩
 | own y=>obtain ⟨ob,e⟩:=x;exact ⟨ob,k _ _ (.inl rfl) e⟩
 | xd fs=>obtain ⟨mA,⟨od,es,ep,e,c⟩,r⟩:=x;exact ⟨mA,⟨od,es,ep,k _ _ (.inl rfl) e,c⟩,r⟩
 | rng lo hi=>obtain ⟨t,u,v,e⟩:=x;exact ⟨t,u,v,k _ _ (.inl rfl) e⟩
 | frz ob u ih=>obtain ⟨e,q⟩:=x;exact ⟨k _ _ (.inl rfl) e,ih q⟩
 | tbl ps =>
  have e:h.get? a=some { cls:=.none,data:=.fields ps }:=x;show h'.get? a=some { cls:=.none,data:=.fields ps }
  exact k a _ (.inl rfl) e
 | met f y =>
  have e:h.get? a=some (PySem.W.methodObj (.ref f) (.ref y)):=x;show h'.get? a=some (PySem.W.methodObj (.ref f) (.ref y))
  exact k a _ (.inl rfl) e
 | ext φ=>obtain ⟨p,⟨o,e⟩,st⟩:=x;exact ⟨st _ _ p λo q=>k _ _ (.inl rfl) q,⟨o,k _ _ (.inl rfl) e⟩,st⟩
theorem HOk.lt(x:HOk P w H h)(e:H a=some o):a < h.objs.size:=(x a o e).lt
theorem HOk.fresh(x:HOk P w H h)(e:h.objs.size<=a):H a=none:=by
 cases q:H a with
 | none=>rfl
 | some u=>exact absurd (Nat.lt_of_lt_of_le (x.lt q) e) (Nat.lt_irrefl _)
theorem HOk.kept(x:HOk P w H h)(k:∀ b u,h.get? b=some u->h'.get? b=some u):HOk P w H h':=λa o e =>
 (x a o e).stay (λb u _ q=>k b u q) (λ_ q=>q) λ_ _ q=>q
theorem HOk.laid(x:HOk P w H h)(k:∀ b u,h.get? b=some u->h'.get? b=some u)(hp:h.objs.size<=a)(new:y_ P w (upd H a o) h' a o):HOk P w (upd H a o) h':=λb u e=>by
 have hn:=x.fresh hp;by_cases hb:b=a
 ·subst hb;rw [jd] at e;cases e;exact new
 ·rw [jm hb] at e;exact (x b u e).stay (λc v _ q=>k c v q) (λc q=>by rw [jm (qu q hn)];exact q) λc xs q=>by rw [jm (qu q hn)];exact q
end
def Rd(H:Hp)(a:Addr)(u:HO):Prop:=H a=some u\/∃ o,H a=some (.frz o u)
theorem Rd.ok{P:Program}{w:World}{H:Hp}{h:Heap}{a:Addr}{u:HO}(r:Rd H a u)(x:HOk P w H h):y_ P w H h a u:=by
 rcases r with r | ⟨o,r⟩
 ·exact x a u r
 ·obtain ⟨_,q⟩:=x a _ r;exact q
def Mut:Option HO->Prop
 | some (.lst _)=>True
 | some (.dK _)=>True
 | some (.dT _)=>True
 | some (.set _ _)=>True
 | some (.ins _ _ _)=>True
 | some (.ext _)=>True
 | _=>False
section
variable{P:Program}{w:World}{H:Hp}{h h':Heap}{x e:Addr}{o':HO}
theorem HOk.write(ok:HOk P w H h)(mu:Mut (H x))(he:e=x\/H e=some (.own x))(k:∀ b u,b≠e->h.get? b=some u->h'.get? b=some u)(heo:∃ u,h'.get? e=some u)
  (new:y_ P w (upd H x o') h' x o'):HOk P w (upd H x o') h':=λb u q=>by
 have nown:∀ c y,H c=some (.own y)->c≠x:=λc y r z=>by subst z;rw [r] at mu;exact mu
 have ntup:∀ c xs,H c=some (.tup xs)->c≠x:=λc xs r z=>by subst z;rw [r] at mu;exact mu
 by_cases hb:b=x
 ·subst hb;rw [jd] at q;cases q;exact new
 ·rw [jm hb] at q;by_cases hbe:b=e
  ·have q':H b=some (.own x):=by
    rcases he with z | z
    ·exact absurd (hbe.trans z) hb
    ·rw [hbe];exact z
   rw [q] at q';cases q';obtain ⟨v,hv⟩:=heo;exact ⟨v,by rw [hbe];exact hv⟩
  ·refine (ok b u q).stay (λc v hc r=>k c v ?_ r) (λc r=>by rw [jm (nown c b r)];exact r) λc xs r=>by rw [jm (ntup c xs r)];exact r
   rcases hc with rfl | hc
   ·exact hbe
   ·rintro rfl;rcases he with z | z
    ·exact nown c b hc z
    ·rw [hc] at z;cases z;exact hb rfl
end
structure Un(fs ex:List Addr)(H H':Hp)(h h':Heap):Prop where
 keep:∀ b o,h.get? b=some o->H b=none->b∉fs->b∉ex->h'.get? b=some o
 slot:∀ b o,h.get? b=some o->H b=none->b∈fs->b∉ex->∃ sl,h'.get? b=some { o with slots:=sl }
 free:∀ b o,h.get? b=some o->H b=none->b∉ex->H' b=none
 there:∀ b o,h.get? b=some o->b∉ex->∃ o',h'.get? b=some o'
 tups:∀ b xs,H b=some (.tup xs)->H' b=some (.tup xs)
 frzs:∀ b o u,H b=some (.frz o u)->H' b=some (.frz o u)
 tbls:∀ b ps,H b=some (.tbl ps)->∃ more,H' b=some (.tbl (ps ++ more))
section
variable{fs fs' ex ex':List Addr}{H H1 H2:Hp}{h h1 h2 h':Heap}{a x e:Addr}{o:HO}
theorem Un.any(u:Un fs ex H H1 h h1){b:Addr}{ob:Obj}(q:h.get? b=some ob)(n:H b=none)(hx:b∉ex):∃ sl,h1.get? b=some { ob with slots:=sl }:=by
 by_cases hb:b∈fs
 ·exact u.slot b ob q n hb hx
 ·exact ⟨ob.slots,u.keep b ob q n hb hx⟩
theorem Un.kept(k:∀ b u,h.get? b=some u->h'.get? b=some u):Un fs ex H H h h' :=
 ⟨λb ob q _ _ _=>k b ob q,λb ob q _ _ _=>⟨ob.slots,k b ob q⟩,λ_ _ _ n _=>n,λb ob q _=>⟨ob,k b ob q⟩,λ_ _ q=>q,λ_ _ _ q=>q,λ_ ps q=>⟨#[],by rw [q];simp⟩⟩
theorem Un.refl:Un fs ex H H h h:=Un.kept λ_ _ q=>q
theorem Un.laid(k:∀ b u,h.get? b=some u->h'.get? b=some u)(hp:h.objs.size<=a)(hn:H a=none):Un fs ex H (upd H a o) h h' where
 keep:=λb u q _ _ _=>k b u q
 slot:=λb u q _ _ _=>⟨u.slots,k b u q⟩
 free:=λb u q n _=>by rw [jm (Nat.ne_of_lt (Nat.lt_of_lt_of_le (Heap.lt_size q) hp))];exact n
 there:=λb u q _=>⟨u,k b u q⟩
 tups:=λb xs q=>by rw [jm (qu q hn)];exact q
 frzs:=λb u xs q=>by rw [jm (qu q hn)];exact q
 tbls:=λb ps q=>⟨#[],by rw [jm (qu q hn),q];simp⟩
theorem Un.write(mu:Mut (H x))(he:e=x\/H e=some (.own x))(k:∀ b u,b≠e->h.get? b=some u->h'.get? b=some u)(heo:∃ u,h'.get? e=some u):Un fs ex H (upd H x o) h h':=by
 have hx:∀ b,H b=none->b≠x:=λb n z=>by subst z;rw [n] at mu;exact mu
 have hb:∀ b,H b=none->b≠e:=λb n z=>by
  subst z;rcases he with r | r
  ·exact hx b n r
  ·rw [n] at r;cases r
 have hm:∀ b u,H b=some u->¬ Mut (some u)->b≠x:=λb u q nm z=>by subst z;rw [q] at mu;exact nm mu
 refine ⟨λb u q n _ _=>k b u (hb b n) q,λb u q n _ _=>⟨u.slots,k b u (hb b n) q⟩,λb u q n _=>by rw [jm (hx b n)];exact n,λb u q _=>?_,
  λb xs q=>by rw [jm (hm b _ q λz=>z)];exact q,λb u xs q=>by rw [jm (hm b _ q λz=>z)];exact q,λb ps q=>⟨#[],by rw [jm (hm b _ q λz=>z),q];simp⟩⟩
 by_cases hbe:b=e
 ·subst hbe;exact heo
 ·exact ⟨u,k b u hbe q⟩
end
def trk(h:Heap)(H:Hp):List Addr:=(List.range h.objs.size).filter λa=>(H a).isSome
def jg5(h:Heap)(H:Hp):Heap:=PySem.W.hideAll h (trk h H)
theorem jvm(h:Heap)(H:Hp):(jg5 h H).objs.size=h.objs.size:=PySem.W.hideAll_size _ _
theorem jx6{h:Heap}{H:Hp}{b:Addr}{o:Obj}(e:h.get? b=some o)(n:H b=none):(jg5 h H).get? b=some o :=
 PySem.W.hideAll_get _ e λhm=>by
  have q:(H b).isSome=true:=(List.mem_filter.mp hm).2;rw [n] at q;simp at q
theorem j0m{h:Heap}{H:Hp}{b:Addr}{o:Obj}(e:(jg5 h H).get? b=some o):h.get? b=some o/\H b=none:=by
 have e':h.get? b=some o:=PySem.W.of_hideAll (trk h H) e;refine ⟨e',?_⟩;cases q:H b with
 | none=>rfl
 | some x =>
  have hm:b∈trk h H:=List.mem_filter.mpr ⟨List.mem_range.mpr (Heap.lt_size e'),by simp [q]⟩;have z:(jg5 h H).get? b=none:=PySem.W.hideAll_none (trk h H) hm
  rw [z] at e;cases e
structure Mod(K:W.Frag)(mg:Str->Option Value)(base:Heap):Prop where
 kin:K.In base
 glob:base.Ns mainGlobals mg
 blt:∃ mb,base.Ns builtinsNs mb/\∀ x:Str,x≠"__name__"->mb x=bootBuiltins x
 nolimit:base.NoLimit
structure Cx where
 prog:Program
 w:World
 K:PySem.W.Frag
 mg:Str->Option Value
 base:Heap
 A:Around
 N:List Str
 s_0:Shared
 H_0:Hp
 env:Env
 outer:List Env
 stack:List Env
 ex:List Addr
 fn:Str->Bool
 calm:Bool
 pn:List (Addr×Obj)
 xe:Value->Shared->Prop
def frs(l:List Env):List Addr:=l.filterMap (·.frame)
abbrev Cx.fs(X:Cx):List Addr:=frs X.outer
def Vis(sc:Scope)(x:Str):Prop:=sc.names.lookup x=some .local\/sc.names.lookup x=some .cell\/sc.names.lookup x=some .free
def Loc(sc:Scope)(x:Str):Prop:=sc.names.lookup x=some .local\/sc.names.lookup x=some .cell
def j47(env:Env)(h:Heap)(m:Str->Option Value)(x:Str)(u:Value):Prop :=
 (env.kindOf x=some .local/\m x=some u)\/((env.kindOf x=some .cell\/env.kindOf x=some .free)/\∃ c,env.cells.lookup x=some c/\h.IsCell c (some u))
structure Cx.Ok(X:Cx):Prop where
 mod:Mod X.K X.mg X.base
 kind:X.env.scope.kind = .function
 glob:X.env.globals=mainGlobals
 blt:X.env.builtins=builtinsNs
 above:X.s_0.heap.objs.size<=X.env.locals
 inj:∀ x y c,X.env.cells.lookup x=some c->X.env.cells.lookup y=some c->x=y
 has:∀ x,(X.env.kindOf x=some .cell\/X.env.kindOf x=some .free)->∃ c,X.env.cells.lookup x=some c
 cab:∀ x c,X.fn x=true->X.env.cells.lookup x=some c->X.s_0.heap.objs.size<=c
 hd:X.calm=true->X.A.handled=none
 frames:X.A.frames=some X.stack
 stk:X.stack=X.outer\/(X.stack=X.env::X.outer/\X.env.frame=some X.env.locals)
 exf:∀ b∈X.ex,b≠X.env.locals/\∀ x c,X.env.cells.lookup x=some c->c≠b
 bs:∀ b o,X.base.get? b=some o->X.s_0.heap.get? b=some o/\X.H_0 b=none
 bsz:X.base.objs.size<=X.s_0.heap.objs.size
 noex:∀ b o,X.base.get? b=some o->b∉X.ex
 exfs:∀ b∈X.ex,b∉X.fs
 funs:X.s_0.heap.FunFrames X.base X.outer
 frf:∀ b∈X.fs,X.H_0 b=none
structure Inv(X:Cx)(pins:List (Addr×Obj))(σ:List (Option V))(H:Hp)(s:Shared):Prop where
 ok:X.Ok
 os:s.os=X.s_0.os
 bare:AllBare s.gens
 base:Un X.fs X.ex X.H_0 H X.s_0.heap s.heap
 loc:∃ m,s.heap.Ns X.env.locals m/\∀ (i:Nat) (x:Str) (v:V),X.N[i]? = some x->σ[i]? = some (some v)->Vis X.env.scope x->∃ u,xm v u/\j47 X.env s.heap m x u
 cell:∀ x c,X.env.cells.lookup x=some c->∃ v,s.heap.IsCell c v
 free:H X.env.locals=none
 freeC:∀ x c,X.env.cells.lookup x=some c->H c=none
 pin:∀ p∈X.pn ++ pins,s.heap.get? p.1=some p.2/\H p.1=none/\p.1≠X.env.locals/\p.1∉X.fs/\∀ v,p.2.data≠.cell v
 hok:HOk X.prog X.w H s.heap
 len:σ.length=X.N.length
section
variable{X:Cx}{pins:List (Addr×Obj)}{σ:List (Option V)}{H H':Hp}{s:Shared}{h':Heap}
theorem Cx.Ok.nofr(ok:X.Ok){b:Addr}{o:Obj}(e:X.base.get? b=some o):b∉X.fs:=λhb=>by
 have:=(ok.funs.mem hb).1;rw [e] at this;cases this
theorem Inv.bs(I:Inv X pins σ H s):∀ b o,X.base.get? b=some o->s.heap.get? b=some o/\H b=none:=λb o e =>
 ⟨I.base.keep b o (I.ok.bs b o e).1 (I.ok.bs b o e).2 (I.ok.nofr e) (I.ok.noex b o e),I.base.free b o (I.ok.bs b o e).1 (I.ok.bs b o e).2 (I.ok.noex b o e)⟩
theorem Inv.bk(I:Inv X pins σ H s):∀ b o,X.base.get? b=some o->s.heap.get? b=some o:=λb o e=>(I.bs b o e).1
theorem Inv.mod(I:Inv X pins σ H s):Mod X.K X.mg X.base:=I.ok.mod
theorem Inv.kIn(I:Inv X pins σ H s):X.K.In s.heap:=I.ok.mod.kin.keeps I.bk
theorem Inv.fr(I:Inv X pins σ H s):∃ m,Fr X.base X.env.locals s.heap m :=
 let ⟨m,hn,_⟩:=I.loc
 ⟨m,hn,I.bk,Nat.le_trans I.ok.bsz I.ok.above⟩
theorem Inv.lt(I:Inv X pins σ H s):X.env.locals < s.heap.objs.size:=let ⟨_,hn,_⟩:=I.loc;hn.lt
theorem Inv.sz(I:Inv X pins σ H s):X.s_0.heap.objs.size<=s.heap.objs.size:=Nat.le_trans I.ok.above (Nat.le_of_lt I.lt)
theorem Inv.nofs(I:Inv X pins σ H s){a:Addr}(h:s.heap.objs.size<=a):a∉X.fs:=λhb=>by
 obtain ⟨_,o,ho,_⟩:=I.ok.funs.mem hb;exact absurd (Nat.lt_of_lt_of_le (Heap.lt_size ho) (Nat.le_trans I.sz h)) (Nat.lt_irrefl _)
theorem Inv.cne(I:Inv X pins σ H s):∀ x c,X.env.cells.lookup x=some c->c≠X.env.locals:=λx c e z=>by
 obtain ⟨v,o,ho,hd⟩:=I.cell x c e;obtain ⟨m,⟨o',es,ep,ho',hd',_⟩,_⟩:=I.loc;rw [z,ho'] at ho;cases ho;rw [hd'] at hd;cases hd
theorem Inv.funs(I:Inv X pins σ H s):s.heap.FunFrames X.base X.outer:=by
 have all:∀ (l:List Env),(∀ b∈frs l,b∈X.fs)->X.s_0.heap.FunFrames X.base l->s.heap.FunFrames X.base l:=by
  intro l;induction l with
  | nil=>intro _ _;trivial
  | cons env r ih =>
   intro hs hl;obtain ⟨hk,⟨L,o,hf,hn,ho,hd⟩,hr⟩:=hl;have hL:L∈X.fs:=hs L (by unfold frs;rw [List.filterMap_cons,hf];exact List.mem_cons_self)
   obtain ⟨sl,e⟩:=I.base.slot L o ho (I.ok.frf L hL) hL λz=>I.ok.exfs L z hL;exact ⟨hk,⟨L,_,hf,hn,e,hd⟩,ih (λb hb=>hs b (by unfold frs;rw [List.filterMap_cons,hf];exact List.mem_cons_of_mem _ hb)) hr⟩
 exact all X.outer (λ_ hb=>hb) I.ok.funs
theorem Inv.stack(I:Inv X pins σ H s):s.heap.FunFrames X.base X.stack:=by
 rcases I.ok.stk with e | ⟨e,hf⟩
 ·rw [e];exact I.funs
 ·rw [e];obtain ⟨m,hn,_⟩:=I.loc;refine .cons (by rw [I.ok.kind];decide) hf hn ?_ I.funs;exact Heap.get?_none_of_le (Nat.le_trans I.ok.bsz I.ok.above)
theorem Inv.stkSub(I:Inv X pins σ H s):∀ b∈frs X.stack,b∈X.env.locals::X.fs:=λb hb=>by
 rcases I.ok.stk with e | ⟨e,hf⟩
 ·rw [e] at hb;exact List.mem_cons_of_mem _ hb
 ·rw [e] at hb;unfold frs at hb;rw [List.filterMap_cons,hf] at hb;exact hb
theorem Inv.stkFree(I:Inv X pins σ H s):∀ b∈frs X.stack,H b=none:=λb hb=>by
 rcases List.mem_cons.mp (I.stkSub b hb) with e | hb
 ·rw [e];exact I.free
 ·obtain ⟨_,o,ho,_⟩:=I.ok.funs.mem hb;exact I.base.free b o ho (I.ok.frf b hb) λz=>I.ok.exfs b z hb
theorem Inv.step{g':Array GenState}{t':Nat}{d':Drawn}{ch:List Addr}(I:Inv X pins σ H s)
  (hch:∀ b∈ch,(b∈X.ex\/X.s_0.heap.objs.size<=b)/\b≠X.env.locals/\(∀ x c,X.env.cells.lookup x=some c->c≠b)/\∀ p∈X.pn ++ pins,p.1≠b)
  (keep:∀ b o,b≠X.env.locals->b∉X.fs->b∉ch->s.heap.get? b=some o->H b=none->h'.get? b=some o)
  (slot:∀ b o,b≠X.env.locals->b∈X.fs->b∉ch->s.heap.get? b=some o->H b=none->∃ sl,h'.get? b=some { o with slots:=sl }) (free:∀ b o,b∉ch->s.heap.get? b=some o->H b=none->H' b=none)
  (there:∀ b o,b∉ch->s.heap.get? b=some o->∃ o',h'.get? b=some o')
  (tups:∀ b xs,H b=some (.tup xs)->H' b=some (.tup xs)) (frzs:∀ b o u,H b=some (.frz o u)->H' b=some (.frz o u)) (tbls:∀ b ps,H b=some (.tbl ps)->∃ more,H' b=some (.tbl (ps ++ more)))
  (ns:∀ m,s.heap.Ns X.env.locals m->h'.Ns X.env.locals m) (hok:HOk X.prog X.w H' h') (hg:AllBare g') :
  Inv X pins σ H' { s with heap:=h',gens:=g',drawn:=d',toks:=t' }:=by
 have neL:∀ b o,X.s_0.heap.get? b=some o->b≠X.env.locals:=λb o e=>Nat.ne_of_lt (Nat.lt_of_lt_of_le (Heap.lt_size e) I.ok.above);have neC:∀ b o,X.s_0.heap.get? b=some o->b∉X.ex->b∉ch:=λb o e hx hb=>by
  rcases (hch b hb).1 with z | z
  ·exact hx z
  ·exact absurd (Nat.lt_of_lt_of_le (Heap.lt_size e) z) (Nat.lt_irrefl _)
 have cellK:∀ x c,X.env.cells.lookup x=some c->∀ v,s.heap.IsCell c v->h'.IsCell c v:=λx c e v ⟨o,ho,hd⟩=>by
  have nch:c∉ch:=λz=>(hch c z).2.2.1 x c e rfl;by_cases hc:c∈X.fs
  ·obtain ⟨sl,q⟩:=slot c o (I.cne x c e) hc nch ho (I.freeC x c e);exact ⟨_,q,hd⟩
  ·exact ⟨o,keep c o (I.cne x c e) hc nch ho (I.freeC x c e),hd⟩
 refine ⟨I.ok,I.os,hg,⟨λb o e n hb hx=>?_,λb o e n hb hx=>?_,λb o e n hx=>?_,λb o e hx=>?_,λb xs e=>tups b xs (I.base.tups b xs e),λb o xs e=>frzs b o xs (I.base.frzs b o xs e),λb ps e=>?_⟩,?_,λx c e=>?_,?_,λx c e=>?_,λp hp=>?_,hok,I.len⟩
 ·exact keep b o (neL b o e) hb (neC b o e hx) (I.base.keep b o e n hb hx) (I.base.free b o e n hx)
 ·obtain ⟨sl,e1⟩:=I.base.slot b o e n hb hx;obtain ⟨sl',e2⟩:=slot b _ (neL b o e) hb (neC b o e hx) e1 (I.base.free b o e n hx);exact ⟨sl',e2⟩
 ·obtain ⟨o',e1⟩:=I.base.there b o e hx;exact free b o' (neC b o e hx) e1 (I.base.free b o e n hx)
 ·obtain ⟨o',e1⟩:=I.base.there b o e hx;exact there b o' (neC b o e hx) e1
 ·obtain ⟨m1,e1⟩:=I.base.tbls b ps e;obtain ⟨m2,e2⟩:=tbls b _ e1;exact ⟨m1 ++ m2,by rw [e2,Array.append_assoc]⟩
 ·obtain ⟨m,hn,hl⟩:=I.loc;refine ⟨m,ns m hn,λi x v e1 e2 e3=>?_⟩;obtain ⟨u,r,l⟩:=hl i x v e1 e2 e3;refine ⟨u,r,?_⟩;rcases l with l | ⟨k,c,e,z⟩
  ·exact .inl l
  ·exact .inr ⟨k,c,e,cellK x c e _ z⟩
 ·obtain ⟨v,z⟩:=I.cell x c e;exact ⟨v,cellK x c e v z⟩
 ·obtain ⟨m,⟨o,_,_,ho,_⟩,_⟩:=I.loc;exact free _ o (λz=>(hch _ z).2.1 rfl) ho I.free
 ·obtain ⟨v,o,ho,hd⟩:=I.cell x c e;exact free c o (λz=>(hch c z).2.2.1 x c e rfl) ho (I.freeC x c e)
 ·obtain ⟨e,n,ne,nf,d⟩:=I.pin p hp;have nch:p.1∉ch:=λz=>(hch p.1 z).2.2.2 p hp rfl
  exact ⟨keep p.1 p.2 ne nf nch e n,free p.1 p.2 nch e n,ne,nf,d⟩
theorem Inv.un{t':Nat}(I:Inv X pins σ H s)(u:Un X.fs [] H H' s.heap h')(hok:HOk X.prog X.w H' h'):Inv X pins σ H' { s with heap:=h',toks:=t' }:=by
 obtain ⟨m,⟨o,es,ep,ho,r⟩,_⟩:=id I.loc;obtain ⟨sl,hL⟩:=u.any ho I.free (by simp);exact I.step (g':=s.gens) (d':=s.drawn) (ch:=[]) (λ_ z=>nomatch z) (λb o _ hb _ e n=>u.keep b o e n hb (by simp)) (λb o _ hb _ e n=>u.slot b o e n hb (by simp)) (λb o _ e n=>u.free b o e n (by simp)) (λb o _ e=>u.there b o e (by simp)) u.tups u.frzs u.tbls (λm' hm=>by
  obtain ⟨o',es',ep',ho',r'⟩:=hm;rw [ho] at ho';cases ho';exact ⟨_,es',ep',hL,r'⟩) hok I.bare
theorem Inv.call{g':Array GenState}{t':Nat}{d':Drawn}{ch:List Addr}(I:Inv X pins σ H s)(u:Un (frs X.stack) ch H H' s.heap h')(hok:HOk X.prog X.w H' h')(hg:AllBare g')
  (hch:∀ b∈ch,(b∈X.ex\/X.s_0.heap.objs.size<=b)/\b≠X.env.locals/\(∀ x c,X.env.cells.lookup x=some c->c≠b)/\∀ p∈X.pn ++ pins,p.1≠b) :
  Inv X pins σ H' { s with heap:=h',gens:=g',drawn:=d',toks:=t' }:=by
 obtain ⟨m,⟨o,es,ep,ho,r⟩,_⟩:=id I.loc;obtain ⟨sl,hL⟩:=u.any ho I.free λz=>(hch _ z).2.1 rfl;exact I.step (ch:=ch) hch (λb o hL hb hc e n=>u.keep b o e n (λz=>(List.mem_cons.mp (I.stkSub b z)).elim hL hb) hc) (λb o _ _ hc e n=>u.any e n hc) (λb o hc e n=>u.free b o e n hc) (λb o hc e=>u.there b o e hc) u.tups u.frzs u.tbls (λm' hm=>by
  obtain ⟨o',es',ep',ho',r'⟩:=hm;rw [ho] at ho';cases ho';exact ⟨_,es',ep',hL,r'⟩) hok hg
theorem Inv.turned{t':Nat}{it:Addr}(I:Inv X pins σ H s)(k:∀ b o,b≠it->s.heap.get? b=some o->h'.get? b=some o)(hn:H it=none)(hL:it≠X.env.locals)
  (h1:it∈X.ex\/X.s_0.heap.objs.size<=it) (h2:∀ x c,X.env.cells.lookup x=some c->c≠it) (h3:∀ p∈X.pn ++ pins,p.1≠it):Inv X pins σ H { s with heap:=h',toks:=t' }:=by
 have nit:∀ b u,H b=some u->b≠it:=λb u e z=>by rw [z,hn] at e;cases e
 refine I.step (g':=s.gens) (d':=s.drawn) (ch:=[it]) (λb hb=>?_) (λb o _ _ hc e _=>k b o (λz=>hc (by simp [z])) e) (λb o _ _ hc e _=>⟨o.slots,k b o (λz=>hc (by simp [z])) e⟩) (λ_ _ _ _ n=>n)
  (λb o hc e=>⟨o,k b o (λz=>hc (by simp [z])) e⟩) (λ_ _ e=>e) (λ_ _ _ e=>e) (λb ps e=>⟨#[],by rw [e];simp⟩) (λm hm=>?_) (λb u e=>?_) I.bare
 ·have e:b=it:=by simpa using hb
  subst e;exact ⟨h1,hL,h2,h3⟩
 ·obtain ⟨o,es,ep,ho,r⟩:=hm;exact ⟨o,es,ep,k _ o (Ne.symm hL) ho,r⟩
 ·refine (I.hok b u e).stay (λc v hc q=>k c v ?_ q) (λ_ q=>q) λ_ _ q=>q;rcases hc with z | z
  ·rw [z];exact nit b u e
  ·exact nit c _ z
theorem Inv.tok(I:Inv X pins σ H s)(t:Nat):Inv X pins σ H { s with toks:=t }:=I.un (h':=s.heap) (t':=t) Un.refl I.hok
theorem Inv.kept{t':Nat}(I:Inv X pins σ H s)(k:∀ b u,s.heap.get? b=some u->h'.get? b=some u):Inv X pins σ H { s with heap:=h',toks:=t' }:=I.un (Un.kept k) (I.hok.kept k)
theorem Inv.laid{a:Addr}{o:HO}{t':Nat}(I:Inv X pins σ H s)(k:∀ b u,s.heap.get? b=some u->h'.get? b=some u)(hp:s.heap.objs.size<=a)(new:y_ X.prog X.w (upd H a o) h' a o) :
  Inv X pins σ (upd H a o) { s with heap:=h',toks:=t' }:=I.un (Un.laid k hp (I.hok.fresh hp)) (I.hok.laid k hp new)
theorem Inv.write{x e:Addr}{o:HO}{t':Nat}(I:Inv X pins σ H s)(mu:Mut (H x))(he:e=x\/H e=some (.own x))(k:∀ b u,b≠e->s.heap.get? b=some u->h'.get? b=some u)(heo:∃ u,h'.get? e=some u)
  (new:y_ X.prog X.w (upd H x o) h' x o):Inv X pins σ (upd H x o) { s with heap:=h',toks:=t' }:=I.un (Un.write mu he k heo) (I.hok.write mu he k heo new)
theorem Inv.weak{σ':List (Option V)}(I:Inv X pins σ H s)(hl:σ'.length=σ.length)(w:∀ (i:Nat) v,σ'[i]? = some (some v)->σ[i]? = some (some v)):Inv X pins σ' H s :=
 ⟨I.ok,I.os,I.bare,I.base,let ⟨m,hn,hl'⟩:=I.loc;⟨m,hn,λi x v e1 e2 e3=>hl' i x v e1 (w i v e2) e3⟩,I.cell,I.free,I.freeC,I.pin,I.hok,hl.trans I.len⟩
theorem Inv.pins_of{pins':List (Addr×Obj)}(I:Inv X pins σ H s)(h:∀ p∈pins',s.heap.get? p.1=some p.2/\H p.1=none/\p.1≠X.env.locals/\p.1∉X.fs/\∀ v,p.2.data≠.cell v):Inv X pins' σ H s :=
 ⟨I.ok,I.os,I.bare,I.base,I.loc,I.cell,I.free,I.freeC,λp hp=>(List.mem_append.mp hp).elim (λz=>I.pin p (List.mem_append_left _ z)) (h p),I.hok,I.len⟩
theorem jjl{N:List Str}(hN:N.Nodup){i j:Nat}{x:Str}(a:N[i]? = some x)(b:N[j]? = some x):i=j:=by
 obtain ⟨h1,e1⟩:=List.getElem?_eq_some_iff.mp a;obtain ⟨h2,e2⟩:=List.getElem?_eq_some_iff.mp b;exact (List.getElem_inj hN).mp (e1.trans e2.symm)
theorem jl4{M:Model}{A:Around}{E:Value->Shared->Prop}{i:Nat}{x:Str}{v:V}{u:Value}{Q:Unit->Shared->Prop}(I:Inv X pins σ H s)(hN:X.N.Nodup)(hi:X.N[i]? = some x)(hx:Loc X.env.scope x)(r:xm v u)
  (h:∀ s',Inv X pins (σ.set i (some v)) H s'->(∃ a,Heap.SameBut a s.heap s'.heap/\(a=X.env.locals\/X.env.cells.lookup x=some a))->Q () s') (hf:X.fn x=true\/X.env.scope.names.lookup x=some .local:=by first | exact .inl rfl | exact .inr rfl | assumption):wpAny M A (storeName X.env x u) Q E s:=by
 obtain ⟨m,hn,hl⟩:=id I.loc;have hcls:(X.env.scope.kind == .class || (X.env.scope.kind == .module && X.env.locals != X.env.globals))=false:=by rw [I.ok.kind];rfl
 have hiσ:i < σ.length:=by rw [I.len];exact (List.getElem?_eq_some_iff.mp hi).1
 have cne:=I.cne;have tracked:∀ {a:Addr} {h':Heap},(∃ o,s.heap.get? a=some o/\H a=none)->Heap.SameBut a s.heap h'->HOk X.prog X.w H h':=λ{a h'} ha hs b ob e=>by
  obtain ⟨_,_,hfree⟩:=ha;refine (I.hok b ob e).stay (λc w' hc q=>(hs.2 c ?_).trans q) (λ_ q=>q) λ_ _ q=>q;rintro rfl;rcases hc with rfl | hc
  ·rw [hfree] at e;cases e
  ·rw [hfree] at hc;cases hc
 rcases hx with hk | hk
 ·refine wpAny_storeName_local hk hn (λh' hn' hs=>?_) hcls;obtain ⟨oL,_,_,hoL,_⟩:=id hn;refine h _ ⟨I.ok,I.os,I.bare,⟨λb o e n hb hx=>?_,λb o e n hb hx=>?_,I.base.free,λb o e hx=>?_,I.base.tups,I.base.frzs,I.base.tbls⟩,⟨_,hn',λj y v' e1 e2 e3=>?_⟩,λy c e=>?_,I.free,I.freeC,λp hp=>?_,tracked ⟨oL,hoL,I.free⟩ hs,by simpa using I.len⟩ ⟨_,hs,.inl rfl⟩
  ·exact (hs.2 b (Nat.ne_of_lt (Nat.lt_of_lt_of_le (Heap.lt_size e) I.ok.above))).trans (I.base.keep b o e n hb hx)
  ·obtain ⟨sl,e1⟩:=I.base.slot b o e n hb hx;exact ⟨sl,(hs.2 b (Nat.ne_of_lt (Nat.lt_of_lt_of_le (Heap.lt_size e) I.ok.above))).trans e1⟩
  ·obtain ⟨o',e1⟩:=I.base.there b o e hx;exact ⟨o',(hs.2 b (Nat.ne_of_lt (Nat.lt_of_lt_of_le (Heap.lt_size e) I.ok.above))).trans e1⟩
  ·by_cases hj:j=i
   ·subst hj;rw [hi] at e1;cases e1;rw [List.getElem?_set_self hiσ] at e2;cases e2;exact ⟨u,r,.inl ⟨hk,by simp⟩⟩
   ·rw [List.getElem?_set_ne (Ne.symm hj)] at e2;obtain ⟨u',r',q⟩:=hl j y v' e1 e2 e3;refine ⟨u',r',?_⟩;rcases q with ⟨k,e⟩ | ⟨k,c,e,z⟩
    ·refine .inl ⟨k,?_⟩;have:y≠x:=λe=>hj (jjl hN e1 (e▸hi))
     simp [this,e]
    ·exact .inr ⟨k,c,e,z.sameBut hs (cne y c e)⟩
  ·obtain ⟨w',z⟩:=I.cell y c e;exact ⟨w',z.sameBut hs (cne y c e)⟩
  ·obtain ⟨e,n,ne,nf,d⟩:=I.pin p hp;exact ⟨(hs.2 p.1 ne).trans e,n,ne,nf,d⟩
 ·have hfn:X.fn x=true:=by
   rcases hf with z | z
   ·exact z
   ·rw [z] at hk;cases hk
  obtain ⟨c,hc⟩:=I.ok.has x (.inl hk);obtain ⟨w',z⟩:=I.cell x c hc;refine wpAny_storeName_cell I.ok.kind hk hc z (λh' hc' hs=>?_);obtain ⟨oc,hoc,hocd⟩:=id z;refine h { s with heap:=h' } ⟨I.ok,I.os,I.bare,⟨λb o e n hb hx=>?_,λb o e n hb hx=>?_,I.base.free,λb o e hx=>?_,I.base.tups,I.base.frzs,I.base.tbls⟩,⟨m,hn.sameBut hs (Ne.symm (cne x c hc)),λj y v' e1 e2 e3=>?_⟩,λy c' e=>?_,I.free,I.freeC,λp hp=>?_,tracked ⟨oc,hoc,I.freeC x c hc⟩ hs,by simpa using I.len⟩ ⟨c,hs,.inr hc⟩
  ·exact (hs.2 b (Nat.ne_of_lt (Nat.lt_of_lt_of_le (Heap.lt_size e) (I.ok.cab x c hfn hc)))).trans (I.base.keep b o e n hb hx)
  ·obtain ⟨sl,e1⟩:=I.base.slot b o e n hb hx;exact ⟨sl,(hs.2 b (Nat.ne_of_lt (Nat.lt_of_lt_of_le (Heap.lt_size e) (I.ok.cab x c hfn hc)))).trans e1⟩
  ·obtain ⟨o',e1⟩:=I.base.there b o e hx;exact ⟨o',(hs.2 b (Nat.ne_of_lt (Nat.lt_of_lt_of_le (Heap.lt_size e) (I.ok.cab x c hfn hc)))).trans e1⟩
  ·by_cases hj:j=i
   ·subst hj;rw [hi] at e1;cases e1;rw [List.getElem?_set_self hiσ] at e2;cases e2;exact ⟨u,r,.inr ⟨.inl hk,c,hc,hc'⟩⟩
   ·rw [List.getElem?_set_ne (Ne.symm hj)] at e2;obtain ⟨u',r',q⟩:=hl j y v' e1 e2 e3;refine ⟨u',r',?_⟩;rcases q with q | ⟨k,c',e,z'⟩
    ·exact .inl q
    ·refine .inr ⟨k,c',e,z'.sameBut hs ?_⟩;rintro rfl;exact hj (jjl hN e1 (I.ok.inj _ _ _ e hc▸hi))
  ·by_cases hcc:c'=c
   ·subst hcc;exact ⟨_,hc'⟩
   ·obtain ⟨w2,z2⟩:=I.cell y c' e;exact ⟨w2,z2.sameBut hs hcc⟩
  ·obtain ⟨e,n,ne,nf,d⟩:=I.pin p hp;refine ⟨(hs.2 p.1 ?_).trans e,n,ne,nf,d⟩;intro q;rw [q,hoc] at e;have q':oc=p.2:=Option.some.inj e
   exact d w' (by rw [<- q'];exact hocd)
theorem ji_{M:Model}{A:Around}{E:Value->Shared->Prop}{i:Nat}{x:Str}{v:V}{u:Value}{Q:Unit->Shared->Prop}(I:Inv X pins σ H s)(hN:X.N.Nodup)(hi:X.N[i]? = some x)(hx:Loc X.env.scope x)(r:xm v u)
  (h:∀ s',Inv X pins (σ.set i (some v)) H s'->Q () s') (hf:X.fn x=true\/X.env.scope.names.lookup x=some .local:=by first | exact .inl rfl | exact .inr rfl | assumption):wpAny M A (storeName X.env x u) Q E s :=
 jl4 I hN hi hx r (λs' I' _=>h s' I') hf
theorem Inv.call'{s':Shared}{ch:List Addr}(I:Inv X pins σ H s)(ho:s'.os=s.os)(u:Un (frs X.stack) ch H H' s.heap s'.heap)(hok:HOk X.prog X.w H' s'.heap)(hg:AllBare s'.gens)
  (hch:∀ b∈ch,(b∈X.ex\/X.s_0.heap.objs.size<=b)/\b≠X.env.locals/\(∀ x c,X.env.cells.lookup x=some c->c≠b)/\∀ p∈X.pn ++ pins,p.1≠b):Inv X pins σ H' s':=by
 obtain ⟨h',g',d',t',o'⟩:=s';have e:o'=s.os:=ho
 subst e;exact I.call (g':=g') (t':=t') (d':=d') u hok hg hch
end
abbrev XK:=Value->Option Addr->Hp->Prop
abbrev St:=List (Option V)
abbrev VK:=V->Hp->Prop
abbrev TE:=St->Hp->VK->Prop
abbrev TT:=St->Hp->(Bool->Hp->Prop)->Prop
abbrev TA:=St->Hp->(List V->Hp->Prop)->Prop
structure jbk where
 nx:St->Hp->Prop
 rt:VK
 bk:St->Hp->Prop:=λ_ _=>False
 ct:St->Hp->Prop:=λ_ _=>False
abbrev TS:=jbk->St->Hp->Prop
def EP(X:Cx)(pins:List (Addr×Obj))(σ:St)(Q:VK)(u:Value)(s':Shared):Prop:=∃ v H',Inv X pins σ H' s'/\xm v u/\Q v H'
def TP(X:Cx)(pins:List (Addr×Obj))(σ:St)(Q:Bool->Hp->Prop)(b:Bool)(s':Shared):Prop:=∃ H',Inv X pins σ H' s'/\Q b H'
def AP(X:Cx)(pins:List (Addr×Obj))(σ:St)(Q:List V->Hp->Prop)(us:List Value)(s':Shared):Prop:=∃ vs H',Inv X pins σ H' s'/\qw vs us/\Q vs H'
def SP(X:Cx)(pins:List (Addr×Obj))(D:jbk)(f:Flow)(s':Shared):Prop :=
 match f with
 | .next=>∃ σ' H',Inv X pins σ' H' s'/\D.nx σ' H'
 | .brk=>∃ σ' H',Inv X pins σ' H' s'/\D.bk σ' H'
 | .cont=>∃ σ' H',Inv X pins σ' H' s'/\D.ct σ' H'
 | .ret u=>∃ v σ' H',Inv X pins σ' H' s'/\xm v u/\D.rt v H'
def PE(X:Cx)(e:Expr)(t:TE):Prop :=
 ∀ (pins:List (Addr×Obj)) (s:Shared) (σ:St) (H:Hp) (Q:VK),Inv X pins σ H s->t σ H Q->wpAny (model X.prog X.w) X.A (eval e X.env) (EP X pins σ Q) X.xe s
def PT(X:Cx)(e:Expr)(t:TT):Prop :=
 ∀ (pins:List (Addr×Obj)) (s:Shared) (σ:St) (H:Hp) (Q:Bool->Hp->Prop),Inv X pins σ H s->t σ H Q->wpAny (model X.prog X.w) X.A (isTrue e X.env (eval e X.env)) (TP X pins σ Q) X.xe s
def PW(X:Cx)(e:Expr)(t:TT):Prop :=
 ∀ (whole:Sem Value) (pins:List (Addr×Obj)) (s:Shared) (σ:St) (H:Hp) (Q:Bool->Hp->Prop),Inv X pins σ H s->t σ H Q->wpAny (model X.prog X.w) X.A (isTrue e X.env whole) (TP X pins σ Q) X.xe s
theorem PW.pt{X:Cx}{e:Expr}{t:TT}(h:PW X e t):PT X e t:=h _
def PA(X:Cx)(es:List Expr)(t:TA):Prop :=
 ∀ (pos:Pos) (pins:List (Addr×Obj)) (s:Shared) (σ:St) (H:Hp) (Q:List V->Hp->Prop),Inv X pins σ H s->t σ H Q->wpAny (model X.prog X.w) X.A (spliced (backTo pos (starEach es X.env))) (AP X pins σ Q) X.xe s
def PS(X:Cx)(st:Stmt)(t:TS):Prop :=
 ∀ (pins:List (Addr×Obj)) (s:Shared) (σ:St) (H:Hp) (D:jbk),Inv X pins σ H s->t D σ H->wpAny (model X.prog X.w) X.A (exec st X.env) (SP X pins D) X.xe s
def PSs(X:Cx)(st:List Stmt)(t:TS):Prop :=
 ∀ (pins:List (Addr×Obj)) (s:Shared) (σ:St) (H:Hp) (D:jbk),Inv X pins σ H s->t D σ H->wpAny (model X.prog X.w) X.A (execs st X.env) (SP X pins D) X.xe s
theorem thn{α:Type}{t:Sem α}{Q Q':α->Shared->Prop}{M:Model}{A:Around}{E:Value->Shared->Prop}{s:Shared}(h:wpAny M A t Q E s)(hQ:∀ a s,Q a s->Q' a s):wpAny M A t Q' E s:=wpAny_mono h hQ λ_ _ x=>x
section
variable{X:Cx}
theorem bin{a b:Expr}{ta tb:TE}(ha:PE X a ta)(hb:PE X b tb){pins:List (Addr×Obj)}{s:Shared}{σ:St}{H:Hp}{R:V->V->Hp->Prop}(I:Inv X pins σ H s)(h:ta σ H λx H1=>tb σ H1 λy H2=>R x y H2)
  {α:Type} {Q:α->Shared->Prop} {f:Value->Value->Sem α}
  (hf:∀ v u s2 x y H2,Inv X pins σ H2 s2->xm x v->xm y u->R x y H2->wpAny (model X.prog X.w) X.A (f v u) Q X.xe s2) :
  wpAny (model X.prog X.w) X.A (eval a X.env) (λv s₁=>wpAny (model X.prog X.w) X.A (eval b X.env) (λu s₂=>wpAny (model X.prog X.w) X.A (f v u) Q X.xe s₂) X.xe s₁) X.xe s:=by
 refine thn (ha pins s σ H _ I h) λv s1 ⟨x,H1,I1,r1,q1⟩=>?_;refine thn (hb pins s1 σ H1 _ I1 q1) λu s2 ⟨y,H2,I2,r2,q2⟩=>?_;exact hf v u s2 x y H2 I2 r1 r2 q2
def qy(i:Nat):TE:=λσ H Q=>∃ v,σ[i]? = some (some v)/\Q v H
def tC(v:V):TE:=λ_ H Q=>Q v H
theorem j2c{i:Nat}{x:Str}{pos:Pos}(hN:X.N[i]? = some x)(hv:Vis X.env.scope x)(hd:(x == ("__debug__":Str))=false:=by decide)(hcd:(x == ("__classdict__":Str))=false:=by decide):PE X (.Name x pos) (qy i):=by
 intro pins s σ H Q I h;obtain ⟨v,e,h⟩:=h;obtain ⟨m,hn,hl⟩:=I.loc;obtain ⟨u,r,l⟩:=hl i x v hN e hv;have fin:EP X pins σ Q u s:=⟨v,H,I,r,h⟩
 rcases l with ⟨hk,hm⟩ | ⟨hk,c,hc,hcell⟩
 ·exact wpAny_Name (wpAny_loadName_local I.ok.kind hk hn hm fin) hd
 ·rcases hk with hk | hk
  ·exact wpAny_Name (wpAny_loadName_cell I.ok.kind hk hc hcell fin) hd
  ·exact wpAny_Name (wpAny_loadName_free I.ok.kind hk hc hcell fin hcd) hd
theorem qe{i j pos}:PE X (.Constant (.int i) j pos) (tC (.int i)):=λ_ _ _ H _ I h=>wpAny_Constant_int ⟨.int i,H,I.tok _,⟨_,rfl⟩,h⟩
theorem jr5{b j pos}:PE X (.Constant (.bool b) j pos) (tC (.bl b)):=λ_ _ _ H _ I h=>Constant_bool ⟨.bl b,H,I,rfl,h⟩
theorem jf3{j pos}:PE X (.Constant .none j pos) (tC .non):=λ_ _ _ H _ I h=>Constant_none ⟨.non,H,I,rfl,h⟩
theorem jf{x j pos}:PE X (.Constant (.str x) j pos) (tC (.str x)):=λ_ _ _ H _ I h=>Calls.Constant_str ⟨.str x,H,I.tok _,⟨_,rfl⟩,h⟩
def Gl(X:Cx)(x:Str):Prop:=X.env.kindOf x=some .globalImplicit
theorem jf5{E:Value->Shared->Prop}{pins:List (Addr×Obj)}{s:Shared}{σ:St}{H:Hp}{x:Str}{u:Value}{pos:Pos}{Q:Value->Shared->Prop}(I:Inv X pins σ H s)(hg:Gl X x)(hm:X.mg x=some u)(h:Q u s)
  (hd:(x == ("__debug__":Str))=false:=by decide):wpAny (model X.prog X.w) X.A (eval (.Name x pos) X.env) Q E s :=
 Calls.Name_function_global I.ok.kind hg (Calls.loadGlobal_global (by rw [I.ok.glob];exact I.mod.glob.keeps I.bk) hm h) hd
theorem jh2{E:Value->Shared->Prop}{pins:List (Addr×Obj)}{s:Shared}{σ:St}{H:Hp}{x:Str}{u:Value}{pos:Pos}{Q:Value->Shared->Prop}(I:Inv X pins σ H s)(hg:Gl X x)(hm:X.mg x=none)(hv:bootBuiltins x=some u)(h:Q u s)
  (hn:x≠"__name__":=by decide) (hd:(x == ("__debug__":Str))=false:=by decide):wpAny (model X.prog X.w) X.A (eval (.Name x pos) X.env) Q E s:=by
 obtain ⟨mb,h1,h2⟩:=I.mod.blt;exact Calls.Name_function_global I.ok.kind hg (Calls.loadGlobal_builtin (by rw [I.ok.glob];exact I.mod.glob.keeps I.bk) hm (by rw [I.ok.blt];exact h1.keeps I.bk) ((h2 x hn).trans hv) h) hd
theorem jll{x:Str}{v:V}{u:Value}{pos:Pos}(hg:Gl X x)(hm:X.mg x=some u)(r:xm v u)(hd:(x == ("__debug__":Str))=false:=by decide):PE X (.Name x pos) (tC v) :=
 λ_ _ _ H _ I h=>jf5 I hg hm ⟨v,H,I,r,h⟩ hd
variable{a b:Expr}{ta tb:TE}{pos:Pos}
def PC(X:Cx)(op:CmpOp)(a b:Expr)(t:TE):Prop :=
 ∀ (pins:List (Addr×Obj)) (s:Shared) (σ:St) (H:Hp) (Q:VK),Inv X pins σ H s->t σ H Q->
  wpAny (model X.prog X.w) X.A (eval a X.env) (λv s₁=>wpAny (model X.prog X.w) X.A (eval b X.env) (λu s₂=>wpAny (model X.prog X.w) X.A (compareOp op v u) (EP X pins σ Q) X.xe s₂) X.xe s₁) X.xe s
def tB(t:TE):TT:=λσ H Q=>t σ H λx H1=>∃ c,x = .bl c/\Q c H1
theorem j48{op:CmpOp}{t:TE}(h:PC X op a b t)(h1:behindInMarks op b=false:=by first | exact nobehind _ (by decide) (by decide) | rfl):PT X (.Compare a [op] [b] pos) (tB t):=by
 intro pins s σ H Q I hw;refine wpAny_isTrue_Compare1 (thn (h pins s σ H _ I hw) λv s1 h1=>thn h1 λu s2 h2=>thn h2 λc s3 ⟨x,H1,I1,r1,q1⟩=>?_) h1;obtain ⟨d,rfl,q⟩:=q1;cases r1;exact wpAny_truthy_bool ⟨H1,I1,q⟩
theorem jez{e:Expr}{t:TE}(h:PE X e t)(he:∀ whole,isTrue e X.env whole=(do let v <- whole;standAt e.pos;holding [v] (truthy v)):=by intro _;rfl):PT X e (tB t):=by
 intro pins s σ H Q I hw;refine isTrue_plain (thn (h pins s σ H _ I hw) λv s1 ⟨x,H1,I1,r1,q1⟩=>?_) (he _);obtain ⟨d,rfl,q⟩:=q1;cases r1;exact wpAny_truthy_bool ⟨H1,I1,q⟩
variable{tA tB':TT}{rest:List Expr}
def j4j(t u:TT):TT:=λσ H Q=>t σ H λc H1=>if c=true then u σ H1 Q else Q false H1
def tOr(t u:TT):TT:=λσ H Q=>t σ H λc H1=>if c=true then Q true H1 else u σ H1 Q
def j4f(t:TT):TT:=λσ H Q=>t σ H λc H1=>Q (!c) H1
theorem jb_(ha:PT X a tA):PW X (.BoolOp .And [a] pos) tA:=by
 intro wh pins s σ H Q I h;refine isTrue_and (thn (ha pins s σ H Q I h) λc s1 e=>?_);cases c with
 | true=>exact isTrue_and_nil e
 | false=>exact e
theorem job(ha:PT X a tA):PW X (.BoolOp .Or [a] pos) tA:=by
 intro wh pins s σ H Q I h;refine isTrue_or (thn (ha pins s σ H Q I h) λc s1 e=>?_);cases c with
 | false=>exact isTrue_or_nil e
 | true=>exact e
theorem jcn(ha:PT X a tA)(hb:PW X (.BoolOp .And (b::rest) pos) tB'):PW X (.BoolOp .And (a::b::rest) pos) (j4j tA tB'):=by
 intro wh pins s σ H Q I h;refine isTrue_and (thn (ha pins s σ H _ I h) λc s1 ⟨H1,I1,q1⟩=>?_);cases c with
 | true=>exact hb wh pins s1 σ H1 Q I1 q1
 | false=>exact ⟨H1,I1,q1⟩
theorem jr1(ha:PT X a tA)(hb:PW X (.BoolOp .Or (b::rest) pos) tB'):PW X (.BoolOp .Or (a::b::rest) pos) (tOr tA tB'):=by
 intro wh pins s σ H Q I h;refine isTrue_or (thn (ha pins s σ H _ I h) λc s1 ⟨H1,I1,q1⟩=>?_);cases c with
 | true=>exact ⟨H1,I1,q1⟩
 | false=>exact hb wh pins s1 σ H1 Q I1 q1
theorem joc(ha:PT X a tA):PT X (.UnaryOp .Not a pos) (j4f tA):=by
 intro pins s σ H Q I h;exact isTrue_not (ha pins s σ H (λc H1=>Q (!c) H1) I h)
def j3i(ta tb:TE):TE:=λσ H Q=>ta σ H λx H1=>∃ c,x = .bl c/\if c=true then tb σ H1 Q else Q (.bl false) H1
def j4e(ta tb:TE):TE:=λσ H Q=>ta σ H λx H1=>∃ c,x = .bl c/\if c=true then Q (.bl true) H1 else tb σ H1 Q
theorem jus{op}{t:TE}(h:PE X a t):PE X (.BoolOp op [a] pos) t:=λpins s σ H Q I hw=>BoolOp_one (h pins s σ H Q I hw)
theorem j2e(ha:PE X a ta)(hb:PE X (.BoolOp .And (b::rest) pos) tb):PE X (.BoolOp .And (a::b::rest) pos) (j3i ta tb):=by
 intro pins s σ H Q I h;refine BoolOp_and (thn (ha pins s σ H _ I h) λv s1 ⟨x,H1,I1,r1,q1⟩=>?_);obtain ⟨c,rfl,q1⟩:=q1;cases r1;refine wpAny_truthy_bool ?_;cases c with
 | true=>exact hb pins s1 σ H1 Q I1 q1
 | false=>exact ⟨.bl false,H1,I1,rfl,q1⟩
theorem jr4(ha:PE X a ta)(hb:PE X (.BoolOp .Or (b::rest) pos) tb):PE X (.BoolOp .Or (a::b::rest) pos) (j4e ta tb):=by
 intro pins s σ H Q I h;refine BoolOp_or (thn (ha pins s σ H _ I h) λv s1 ⟨x,H1,I1,r1,q1⟩=>?_);obtain ⟨c,rfl,q1⟩:=q1;cases r1;refine wpAny_truthy_bool ?_;cases c with
 | false=>exact hb pins s1 σ H1 Q I1 q1
 | true=>exact ⟨.bl true,H1,I1,rfl,q1⟩
end
def az(K:W.Frag)(H:Hp)(a:Addr)(xs:List V):Prop :=
 Rd H a (.lst xs)\/
  ∃ (o:Obj) (ad:Array Value) (n:Nat),K.lookup a=some o/\o.cls = .type "list"/\o.dict=none/\o.data = .seq ad n/\ad.size<=sizeLine/\qw xs ad.toList
def be(K:W.Frag)(H:Hp)(a:Addr)(xs:List V):Prop :=
 Rd H a (.tup xs)\/
  ∃ (o:Obj) (ad:Array Value) (n:Nat),K.lookup a=some o/\o.cls = .type "tuple"/\o.data = .seq ad n/\ad.size<=sizeLine/\qw xs ad.toList
def j46:Value->Option V
 | .none=>some .non
 | .bool b=>some (.bl b)
 | .int i _=>some (.int i)
 | .str x _=>some (.str x)
 | .bytes b _=>some (.byt b)
 | .float b _=>some (.flt b)
 | .ref a=>some (.ref a)
 | .type n=>some (.ty n)
 | _=>none
theorem xm.abs{x:V}{u:Value}(r:xm x u):j46 u=some x:=by
 cases x with
 | non=>cases r;rfl
 | bl _=>cases r;rfl
 | int _=>obtain ⟨t,rfl⟩:=r;rfl
 | str _=>obtain ⟨t,rfl⟩:=r;rfl
 | byt _=>obtain ⟨t,rfl⟩:=r;rfl
 | flt _=>obtain ⟨t,rfl⟩:=r;rfl
 | ref _=>cases r;rfl
 | ty _=>cases r;rfl
theorem xm.inj{x y:V}{u:Value}(r:xm x u)(q:xm y u):x=y:=Option.some.inj (r.abs.symm.trans q.abs)
theorem qw.inj:∀ {xs ys:List V} {us:List Value},qw xs us->qw ys us->xs=ys
 | _,_,_,.nil,.nil=>rfl
 | _,_,_,.cons r t,.cons r' t'=>by rw [r.inj r',qw.inj t t']
section
variable{X:Cx}{pins:List (Addr×Obj)}{σ:St}{H:Hp}{s:Shared}{a:Addr}{xs ys:List V}
theorem az.of{K:W.Frag}(h:H a=some (.lst xs)):az K H a xs:=.inl (.inl h)
theorem be.of{K:W.Frag}(h:H a=some (.tup xs)):be K H a xs:=.inl (.inl h)
theorem Inv.list(I:Inv X pins σ H s)(h:az X.K H a xs):∃ ad:List Value,qw xs ad/\PlainL s.heap a ad.toArray/\xs.length<=sizeLine:=by
 rcases h with h | ⟨o,ad,n,hk,hc,hd,hs,hz,r⟩
 ·obtain ⟨z,ad,n,r,e⟩:=h.ok I.hok;exact ⟨ad,r,⟨_,n,e,rfl,rfl,rfl⟩,z⟩
 ·refine ⟨ad.toList,r,⟨o,n,I.kIn a o hk,hc,hd,by simpa using hs⟩,?_⟩;have e:=r.length
  simp only [Array.length_toList] at e;omega
theorem Inv.tuple(I:Inv X pins σ H s)(h:be X.K H a xs):∃ ad:List Value,qw xs ad/\IsTup s.heap a ad.toArray/\xs.length<=sizeLine:=by
 rcases h with h | ⟨o,ad,n,hk,hc,hs,hz,r⟩
 ·obtain ⟨z,ad,r,p⟩:=h.ok I.hok;exact ⟨ad,r,p,z⟩
 ·refine ⟨ad.toList,r,⟨o,I.kIn a o hk,hc,n,by simpa using hs⟩,?_⟩;have e:=r.length
  simp only [Array.length_toList] at e;omega
theorem Inv.list_inj(I:Inv X pins σ H s)(h:az X.K H a xs)(h':az X.K H a ys):xs=ys:=by
 obtain ⟨ad,r,⟨o,n,e,_,_,d⟩,_⟩:=I.list h;obtain ⟨its',r',⟨o',n',e',_,_,d'⟩,_⟩:=I.list h';rw [e] at e';cases e';rw [d] at d';injection d' with d1 _;have:ad=its':=by simpa using congrArg Array.toList d1
 subst this;exact r.inj r'
theorem Inv.tuple_inj(I:Inv X pins σ H s)(h:be X.K H a xs)(h':be X.K H a ys):xs=ys:=by
 obtain ⟨ad,r,⟨o,e,_,n,d⟩,_⟩:=I.tuple h;obtain ⟨its',r',⟨o',e',_,n',d'⟩,_⟩:=I.tuple h';rw [e] at e';cases e';rw [d] at d';injection d' with d1 _;have:ad=its':=by simpa using congrArg Array.toList d1
 subst this;exact r.inj r'
end
section
variable{X:Cx}{st:Stmt}{rest:List Stmt}{t u:TS}{e:Expr}{te:TE}{pos:Pos}
def jd3:TS:=λD σ H=>D.nx σ H
def jci(t u:TS):TS:=λD σ H=>t { D with nx:=u D } σ H
theorem j3:PSs X [] jd3:=λ_ _ σ H _ I h=>wpAny_execs_nil ⟨σ,H,I,h⟩
theorem jc(h1:PS X st t)(h2:PSs X rest u):PSs X (st::rest) (jci t u):=by
 intro pins s σ H D I h;refine wpAny_execs_cons (thn (h1 pins s σ H { D with nx:=u D } I h) λf s1 q=>?_);cases f with
 | next =>
  obtain ⟨σ',H',I',q⟩:=q;exact h2 pins s1 σ' H' D I' q
 | ret v=>exact q
 | brk=>exact q
 | cont=>exact q
theorem je(h1:PS X st t):PSs X [st] t:=by
 intro pins s σ H D I h;refine wpAny_execs_cons (thn (h1 pins s σ H D I h) λf s1 q=>?_);cases f with
 | next=>exact wpAny_execs_nil q
 | ret v=>exact q
 | brk=>exact q
 | cont=>exact q
theorem Inv.quiet{pins:List (Addr×Obj)}{σ:St}{H:Hp}{s:Shared}(I:Inv X pins σ H s):interactive X.env=false:=by simp [interactive,I.ok.kind]
def jrl(te:TE):TS:=λD σ H=>te σ H λ_ H1=>D.nx σ H1
theorem j6(he:PE X e te)(hs:swapsWith e none pos.line X.env=pure false:=by rfl):PS X (.Expr e pos) (jrl te):=by
 intro pins s σ H D I h;exact wpAny_Expr_any (thn (he pins s σ H _ I h) λv s1 ⟨x,H1,I1,r1,q1⟩=>⟨σ,H1,I1,q1⟩) I.quiet hs
def jge(te:TE):TS:=λD σ H=>te σ H D.rt
theorem jp(he:PE X e te):PS X (.Return (some e) pos) (jge te):=by
 intro pins s σ H D I h;exact wpAny_Return_some (thn (he pins s σ H _ I h) λv s1 ⟨x,H1,I1,r1,q1⟩=>⟨x,σ,H1,I1,r1,q1⟩)
def jgf(c:TT)(t u:TS):TS:=λD σ H=>c σ H λb H1=>if b=true then t D σ H1 else u D σ H1
theorem qi{c:Expr}{a b:List Stmt}{tc:TT}(hc:PT X c tc)(ha:PSs X a t)(hb:PSs X b u):PS X (.If c a b pos) (jgf tc t u):=by
 intro pins s σ H D I h;refine wpAny_If (thn (hc pins s σ H _ I h) λd s1 ⟨H1,I1,q1⟩=>?_);cases d with
 | true=>exact ha pins s1 σ H1 D I1 q1
 | false=>exact hb pins s1 σ H1 D I1 q1
end
abbrev TG:=V->St->Hp->(St->Hp->Prop)->Prop
abbrev TGs:=List V->St->Hp->(St->Hp->Prop)->Prop
def PG(X:Cx)(target:Expr)(t:TG):Prop :=
 ∀ (pins:List (Addr×Obj)) (s:Shared) (σ:St) (H:Hp) (v:V) (u:Value) (Q:St->Hp->Prop),Inv X pins σ H s->xm v u->t v σ H Q->
  wpAny (model X.prog X.w) X.A (assign target X.env u) (λ_ s'=>∃ σ' H',Inv X pins σ' H' s'/\Q σ' H') X.xe s
def PGs(X:Cx)(ts:List Expr)(t:TGs):Prop :=
 ∀ (pins:List (Addr×Obj)) (s:Shared) (σ:St) (H:Hp) (vs:List V) (us:List Value) (Q:St->Hp->Prop),Inv X pins σ H s->qw vs us->t vs σ H Q->
  wpAny (model X.prog X.w) X.A (assignInOrder ((assignEach ts X.env).map (·.2)) us) (λ_ s'=>∃ σ' H',Inv X pins σ' H' s'/\Q σ' H') X.xe s
abbrev TIp:=V->V->Hp->VK->Prop
def PIp(X:Cx)(op:Operator)(t:TIp):Prop :=
 ∀ (pins:List (Addr×Obj)) (s:Shared) (σ:St) (H:Hp) (x y:V) (v u:Value) (Q:VK),Inv X pins σ H s->xm x v->xm y u->t x y H Q->
  wpAny (model X.prog X.w) X.A (inplaceOp op v u) (EP X pins σ Q) X.xe s
section
variable{X:Cx}{pos:Pos}
def ja7(i:Nat):TG:=λv σ H Q=>Q (σ.set i (some v)) H
theorem yo{i:Nat}{x:Str}(hN:X.N.Nodup)(hi:X.N[i]? = some x)(hx:Loc X.env.scope x)(hf:X.fn x=true\/X.env.scope.names.lookup x=some .local:=by first | exact .inl rfl | exact .inr rfl | assumption):PG X (.Name x pos) (ja7 i):=by
 intro pins s σ H v u Q I r h;exact wpAny_assign_Name (ji_ I hN hi hx r (λs' I'=>⟨_,H,I',h⟩) hf)
def j42:TGs:=λvs σ H Q=>vs=[]/\Q σ H
def j35(t:TG)(u:TGs):TGs:=λvs σ H Q=>∃ v r,vs=v::r/\t v σ H λσ' H'=>u r σ' H' Q
theorem jlk:PGs X [] j42:=by
 intro pins s σ H vs us Q I r h;obtain ⟨e,h⟩:=h;subst e;cases r;exact assignInOrder_nil ⟨σ,H,I,h⟩
theorem jcz{e:Expr}{es:List Expr}{t:TG}{u:TGs}(h1:PG X e t)(h2:PGs X es u)
  (hs:(assignEach (e::es) X.env).map (·.2)=assign e X.env::(assignEach es X.env).map (·.2):=by rfl):PGs X (e::es) (j35 t u):=by
 intro pins s σ H vs us Q I r h;obtain ⟨v,vr,e1,h⟩:=h;subst e1;cases r with
 | cons r rr =>
  rw [hs];refine assignInOrder_cons (thn (h1 pins s σ H _ _ _ I r h) λ_ s1 ⟨σ1,H1,I1,q1⟩=>?_);exact h2 pins s1 σ1 H1 _ _ Q I1 rr q1
def j41(K:W.Frag)(n:Nat)(t:TGs):TG:=λv σ H Q=>∃ a xs,v = .ref a/\be K H a xs/\xs.length=n/\t xs σ H Q
theorem joh{es:List Expr}{k:Nat}{t:TGs}{n:Nat}(hc:X.calm=true)(h:PGs X es t)
  (hn:(assignEach es X.env).length=n:=by rfl) (hst:(assignEach es X.env).findIdx? (·.1)=none:=by rfl):PG X (.Tuple es k pos) (j41 X.K n t):=by
 intro pins s σ H v u Q I r hw;obtain ⟨a,xs,e1,hq,hl,hw⟩:=hw;subst e1;cases r;obtain ⟨ad,rv,ht,hz⟩:=I.tuple hq;refine assign_Tuple_tuple (I.ok.hd hc) ht (by simp [hn,<- hl,rv.length]) hst λh' hx=>?_;have I1:Inv X pins σ H { s with heap:=h' }:=I.kept (t':=s.toks) λb o e=>hx b o (Nat.ne_of_lt (Heap.lt_size e)) e
 exact h pins _ σ H xs _ Q I1 (by simpa using rv) hw
def ji8(te:TE)(g:TG):TS:=λD σ H=>te σ H λx H1=>g x σ H1 D.nx
theorem ju{i:Nat}{x:Str}{e:Expr}{te:TE}{pos':Pos}(hN:X.N.Nodup)(hi:X.N[i]? = some x)(hx:Loc X.env.scope x)(he:PE X e te)(hs:swapsWith e (some (.Name x pos')) pos.line X.env=pure false:=by rfl)(hf:X.fn x=true\/X.env.scope.names.lookup x=some .local:=by first | exact .inl rfl | exact .inr rfl | assumption) :
  PS X (.Assign [.Name x pos'] e pos) (ji8 te (ja7 i)):=by
 intro pins s σ H D I h;refine wpAny_Assign_Name (thn (he pins s σ H _ I h) λv s1 ⟨y,H1,I1,r1,q1⟩=>?_) hs;exact ji_ I1 hN hi hx r1 (λs2 I2=>⟨_,H1,I2,q1⟩) hf
def j4i(i:Nat)(te:TE)(ti:TIp):TS:=λD σ H=>∃ x,σ[i]? = some (some x)/\te σ H λy H1=>ti x y H1 λz H2=>D.nx (σ.set i (some z)) H2
theorem jbu{i:Nat}{x:Str}{e:Expr}{te:TE}{op:Operator}{ti:TIp}{pos':Pos}(hN:X.N.Nodup)(hi:X.N[i]? = some x)(hx:Loc X.env.scope x)(he:PE X e te)(ho:PIp X op ti)(hf:X.fn x=true\/X.env.scope.names.lookup x=some .local:=by first | exact .inl rfl | exact .inr rfl | assumption) :
  PS X (.AugAssign (.Name x pos') op e pos) (j4i i te ti):=by
 intro pins s σ H D I h;obtain ⟨v,e1,h⟩:=h;obtain ⟨m,hn,hl⟩:=I.loc;have vis:Vis X.env.scope x:=by rcases hx with k | k;exact .inl k;exact .inr (.inl k)
 obtain ⟨u,r,l⟩:=hl i x v hi e1 vis;refine wpAny_AugAssign_Name ?_;have go:wpAny (model X.prog X.w) X.A (eval e X.env) (λw s₂=>wpAny (model X.prog X.w) X.A (inplaceOp op u w) (λr s₃=>wpAny (model X.prog X.w) X.A (storeName X.env x r) (λ_=>SP X pins D .next) X.xe s₃) X.xe s₂) X.xe s:=by
  refine thn (he pins s σ H _ I h) λw s1 ⟨y,H1,I1,r1,q1⟩=>?_;refine thn (ho pins s1 σ H1 v y u w _ I1 r r1 q1) λz s2 ⟨zv,H2,I2,r2,q2⟩=>?_;exact ji_ I2 hN hi hx r2 (λs3 I3=>⟨_,H2,I3,q2⟩) hf
 rcases l with ⟨hk,hm⟩ | ⟨hk,c,hc,hcell⟩
 ·exact wpAny_loadName_local I.ok.kind hk hn hm go
 ·rcases hk with hk | hk
  ·exact wpAny_loadName_cell I.ok.kind hk hc hcell go
  ·rcases hx with k | k
   ·have:X.env.scope.names.lookup x=some .free:=hk;rw [k] at this;cases this
   ·have:X.env.scope.names.lookup x=some .free:=hk;rw [k] at this;cases this
def ipI(f:Int->Int->Int):TIp:=λx y H Q=>∃ i j,x = .int i/\y = .int j/\Q (.int (f i j)) H
theorem jdr:PIp X .Add (ipI λi j=>i + j):=by
 intro pins s σ H x y v u Q I r1 r2 h;obtain ⟨i,j,e1,e2,q⟩:=h;subst e1;subst e2;obtain ⟨t,rfl⟩:=r1;obtain ⟨t',rfl⟩:=r2;exact iadd_int ⟨.int _,H,I.tok _,⟨_,rfl⟩,q⟩
theorem j2z:PIp X .Sub (ipI λi j=>i - j):=by
 intro pins s σ H x y v u Q I r1 r2 h;obtain ⟨i,j,e1,e2,q⟩:=h;subst e1;subst e2;obtain ⟨t,rfl⟩:=r1;obtain ⟨t',rfl⟩:=r2;exact isub_int ⟨.int _,H,I.tok _,⟨_,rfl⟩,q⟩
def j1c(c:TT)(tb:TS):TS:=λD σ H=>∃ W:Nat->St->Hp->Prop,(∃ m,W m σ H)/\∀ m σ H,W m σ H->
 c σ H λb H1=>if b=true then ∃ N:St->Hp->Prop,(∀ σ' H',N σ' H'->∃ m',m' < m/\W m' σ' H')/\tb { D with nx:=N,ct:=N,bk:=D.nx } σ H1 else D.nx σ H1
theorem z6{c:Expr}{body:List Stmt}{tc:TT}{tb:TS}(hp:PassesOwn (model X.prog X.w) X.A X.env X.xe)(hc:PT X c tc)(hb:PSs X body tb):PS X (.While c body [] pos) (j1c tc tb):=by
 intro pins s σ H D I h;obtain ⟨W,⟨m0,w0⟩,turn⟩:=h;refine wpAny_While (codeAny_whileLoop (λn s'=>∃ σ' H',Inv X pins σ' H' s'/\W n σ' H') ?_ m0 ⟨σ,H,I,w0⟩);rintro n s1 ⟨σ1,H1,I1,w1⟩;refine wpAny_passesOwn hp (thn (hc pins s1 σ1 H1 _ I1 (turn n σ1 H1 w1)) λb s2 ⟨H2,I2,q2⟩=>?_);cases b with
 | true =>
  obtain ⟨N,hN,q2⟩:=q2;rw [if_pos rfl];refine wpAny_passesOwn hp (thn (hb pins s2 σ1 H2 _ I2 q2) λf s3 q3=>?_);cases f with
  | next =>
   obtain ⟨σ3,H3,I3,n3⟩:=q3;obtain ⟨m',hm,w3⟩:=hN σ3 H3 n3;exact ⟨m',hm,σ3,H3,I3,w3⟩
  | cont =>
   obtain ⟨σ3,H3,I3,n3⟩:=q3;obtain ⟨m',hm,w3⟩:=hN σ3 H3 n3;exact ⟨m',hm,σ3,H3,I3,w3⟩
  | brk=>exact q3
  | ret v=>exact q3
 | false =>
  rw [if_neg Bool.false_ne_true];exact wpAny_execs_nil ⟨σ1,H2,I2,q2⟩
end
structure It where
 go:Nat->Hp->Prop
 yld:Nat->Hp->V->Hp->Prop
 stop:Nat->Hp->Prop
def jd1(X:Cx)(pins:List (Addr×Obj))(H:Hp)(b:Addr):Prop :=
 H b=none/\b≠X.env.locals/\b∉X.fs/\(b∈X.ex\/X.s_0.heap.objs.size<=b)/\(∀ x c,X.env.cells.lookup x=some c->c≠b)/\∀ p∈X.pn ++ pins,p.1≠b
theorem Inv.fpOk{X:Cx}{pins:List (Addr×Obj)}{σ:St}{H H':Hp}{s:Shared}{b:Addr}(I:Inv X pins σ H s)(hb:s.heap.objs.size<=b)(hn:H' b=none):jd1 X pins H' b:=by
 refine ⟨hn,Nat.ne_of_gt (Nat.lt_of_lt_of_le I.lt hb),I.nofs hb,.inr (Nat.le_trans I.sz hb),λx c e z=>?_,λp hp z=>?_⟩
 ·obtain ⟨v,q⟩:=I.cell x c e;exact absurd (Nat.lt_of_lt_of_le q.lt (by rw [z];exact hb)) (Nat.lt_irrefl _)
 ·exact absurd (Nat.lt_of_lt_of_le (Heap.lt_size (I.pin p hp).1) (by rw [z];exact hb)) (Nat.lt_irrefl _)
structure jjt(P:Program)(w:World)(K:W.Frag)(tg:Expr)(J:It)(fp:List Addr)(it:Addr)(tn:Nat->Heap->Prop):Prop where
 mem:it∈fp
 obj:∀ i h,tn i h->∀ b∈fp,∃ o,h.get? b=some o/\∀ v,o.data≠.cell v
 keep:∀ i h h',tn i h->(∀ b∈fp,∀ o,h.get? b=some o->h'.get? b=some o)->tn i h'
 item:∀ (X:Cx),X.prog=P->X.w=w->X.K=K->X.calm=true->∀ (i:Nat) (pins:List (Addr×Obj)) (s:Shared) (σ:St) (H:Hp) (E:Value->Shared->Prop),Inv X pins σ H s->(∀ b∈fp,jd1 X pins H b)->tn i s.heap->J.go i H->
  wpAny (model P w) X.A (pyNext (.ref it)) (λr s1=>∃ u,r=some u/\
   wpAny (model P w) X.A (letOwnedTupleGo tg (.ref it) u) (λ_ s2=>∃ x H',Inv X pins σ H' s2/\xm x u/\J.yld i H x H'/\tn (i + 1) s2.heap/\∀ b∈fp,H' b=none) E s1) E s
 done:∀ (X:Cx),X.prog=P->X.w=w->X.K=K->X.calm=true->∀ (i:Nat) (pins:List (Addr×Obj)) (s:Shared) (σ:St) (H:Hp) (E:Value->Shared->Prop),Inv X pins σ H s->(∀ b∈fp,jd1 X pins H b)->tn i s.heap->J.stop i H->
  wpAny (model P w) X.A (pyNext (.ref it)) (λr s1=>r=none/\Inv X pins σ H s1) E s
 self:∀ (A:Around) (i:Nat) (s:Shared) (Q:Value->Shared->Prop) (E:Value->Shared->Prop),tn i s.heap->Q (.ref it) s->wpAny (model P w) A (pyIter (.ref it)) Q E s
abbrev TI:=St->Hp->(It->Hp->Prop)->Prop
def PIE(X:Cx)(pins:List (Addr×Obj))(σ:St)(tg:Expr)(R:It->Hp->Prop)(itv:Value)(s2:Shared):Prop :=
 ∃ (it:Addr) (fp:List Addr) (tn:Nat->Heap->Prop) (J:It) (H':Hp),itv = .ref it/\Inv X pins σ H' s2/\jjt X.prog X.w X.K tg J fp it tn/\tn 0 s2.heap/\(∀ b∈fp,jd1 X pins H' b)/\R J H'
def PI(X:Cx)(tg iter:Expr)(wi:TI):Prop :=
 ∀ (pins:List (Addr×Obj)) (s:Shared) (σ:St) (H:Hp) (R:It->Hp->Prop),Inv X pins σ H s->wi σ H R->
  wpAny (model X.prog X.w) X.A (eval iter X.env) (λv s1=>wpAny (model X.prog X.w) X.A (pyIter v) (PIE X pins σ tg R) X.xe s1) X.xe s
theorem js0{M:Model}{A:Around}{E:Value->Shared->Prop}{s:Shared}{tg:Expr}{it:Addr}{u:Value}{o:Obj}{n:String}{vs:Array Value}{Q:Unit->Shared->Prop}(ho:s.heap.get? it=some o)(hc:o.cls = .type n)(hd:o.data = .fields vs)
  (hn:["enumerate", "zip", "dict_itemiterator", "dict_reverseitemiterator", "odict_iterator", "itertools.zip_longest", "itertools.pairwise"].contains n=false) (hQ:Q () s):wpAny M A (letOwnedTupleGo tg (.ref it) u) Q E s:=by
 unfold letOwnedTupleGo;cases tg <;> first
  | exact wpAny_pure hQ
  | (cases u <;> first
    | exact wpAny_pure hQ
    | (refine wpAny_bind (wpAny_load ho ?_)
       rw [hc,hd];show wpAny M A (if (["enumerate", "zip", "dict_itemiterator", "dict_reverseitemiterator", "odict_iterator", "itertools.zip_longest", "itertools.pairwise"].contains n && vs[0]? == some (rawInt _))=true then _ else _) Q E s
       rw [if_neg (by intro h;rw [hn,Bool.false_and] at h;cases h)];exact wpAny_pure hQ))
def Itl(K:W.Frag)(a:Addr):It :=
 ⟨λi H=>∃ xs x,az K H a xs/\xs[i]? = some x,λi H x H'=>H'=H/\∀ xs,az K H a xs->xs[i]? = some x,λi H=>∃ xs,az K H a xs/\xs.length<=i⟩
def Itt(K:W.Frag)(a:Addr):It :=
 ⟨λi H=>∃ xs x,be K H a xs/\xs[i]? = some x,λi H x H'=>H'=H/\∀ xs,be K H a xs->xs[i]? = some x,λi H=>∃ xs,be K H a xs/\xs.length<=i⟩
theorem jtp{P:Program}{w:World}{K:W.Frag}{tg:Expr}(a it:Addr):jjt P w K tg (Itl K a) [it] it (λi h=>h.IsListIter it a i) where
 mem:=by simp
 obj:=λi h st b hb=>by
  have e:b=it:=by simpa using hb
  subst e;obtain ⟨o,e,c,d⟩:=st;exact ⟨o,e,λv z=>by rw [d] at z;cases z⟩
 keep:=λi h h' st k=>st.at λo e=>k it (by simp) o e
 item:=by
  intro X hP hw hK hc i pins s σ H E I hf st hg;subst hP hw hK;obtain ⟨xs,x,hq,hx⟩:=hg;obtain ⟨ad,rv,p,hz⟩:=I.list hq;obtain ⟨u,hu,ru⟩:=rv.get hx;obtain ⟨f0,f1,f2,f3,f4,f5⟩:=hf it (by simp);refine wpAny_pyNext_list_item st p.isList (x:=u) (by simpa using hu) λh' st' sb=>?_;have I1:Inv X pins σ H { s with heap:=h' }:=I.turned (t':=s.toks) (λb o hb e=>(sb.2 b hb).trans e) f0 f1 f3 f4 f5
  obtain ⟨o,e,c,d⟩:=id st';exact ⟨u,rfl,js0 (s:={ s with heap:=h' }) e c d (by decide) ⟨x,H,I1,ru,⟨rfl,λys hy=>by rw [I.list_inj hy hq];exact hx⟩,st',λb hb=>(hf b hb).1⟩⟩
 done:=by
  intro X hP hw hK hc i pins s σ H E I hf st hg;subst hP hw hK;obtain ⟨xs,hq,hx⟩:=hg;obtain ⟨ad,rv,p,hz⟩:=I.list hq;obtain ⟨f0,f1,f2,f3,f4,f5⟩:=hf it (by simp);have hl:=rv.length
  exact wpAny_pyNext_list_end (I.ok.hd hc) st p.isList (by simp;omega) λh' eb=>⟨rfl,I.turned (t':=s.toks) (λb o hb e=>eb b o hb e) f0 f1 f3 f4 f5⟩
 self:=λ_ _ _ _ _ st h=>wpAny_pyIter_listiter st h
theorem jrh{P:Program}{w:World}{K:W.Frag}{tg:Expr}(a it:Addr):jjt P w K tg (Itt K a) [it] it (λi h=>h.IsTupleIter it a i) where
 mem:=by simp
 obj:=λi h st b hb=>by
  have e:b=it:=by simpa using hb
  subst e;obtain ⟨o,e,c,d⟩:=st;exact ⟨o,e,λv z=>by rw [d] at z;cases z⟩
 keep:=λi h h' st k=>st.at λo e=>k it (by simp) o e
 item:=by
  intro X hP hw hK hc i pins s σ H E I hf st hg;subst hP hw hK;obtain ⟨xs,x,hq,hx⟩:=hg;obtain ⟨ad,rv,p,hz⟩:=I.tuple hq;obtain ⟨u,hu,ru⟩:=rv.get hx;obtain ⟨f0,f1,f2,f3,f4,f5⟩:=hf it (by simp);refine wpAny_pyNext_tuple_item st (show s.heap.IsTuple a ad.toArray from p) (x:=u) (by simpa using hu) λh' st' sb=>?_;have I1:Inv X pins σ H { s with heap:=h' }:=I.turned (t':=s.toks) (λb o hb e=>(sb.2 b hb).trans e) f0 f1 f3 f4 f5
  obtain ⟨o,e,c,d⟩:=id st';exact ⟨u,rfl,js0 (s:={ s with heap:=h' }) e c d (by decide) ⟨x,H,I1,ru,⟨rfl,λys hy=>by rw [I.tuple_inj hy hq];exact hx⟩,st',λb hb=>(hf b hb).1⟩⟩
 done:=by
  intro X hP hw hK hc i pins s σ H E I hf st hg;subst hP hw hK;obtain ⟨xs,hq,hx⟩:=hg;obtain ⟨ad,rv,p,hz⟩:=I.tuple hq;obtain ⟨f0,f1,f2,f3,f4,f5⟩:=hf it (by simp);have hl:=rv.length
  exact wpAny_pyNext_tuple_end (I.ok.hd hc) st (show s.heap.IsTuple a ad.toArray from p) (by simp;omega) λh' eb=>⟨rfl,I.turned (t':=s.toks) (λb o hb e=>eb b o hb e) f0 f1 f3 f4 f5⟩
 self:=λ_ _ _ _ _ st h=>wpAny_pyIter_tupleiter st h
section
variable{X:Cx}{tg:Expr}
def jis(K:W.Frag)(tl:TE):TI:=λσ H R=>tl σ H λx H1=>∃ a,x = .ref a/\(∃ xs,az K H1 a xs)/\R (Itl K a) H1
def j4y(K:W.Frag)(tl:TE):TI:=λσ H R=>tl σ H λx H1=>∃ a,x = .ref a/\(∃ xs,be K H1 a xs)/\R (Itt K a) H1
theorem vz{l:Expr}{tl:TE}(hl:PE X l tl):PI X tg l (jis X.K tl):=by
 intro pins s σ H R I h;refine thn (hl pins s σ H _ I h) λv s1 ⟨x,H1,I1,r1,q1⟩=>?_;obtain ⟨a,e,⟨xs,hq⟩,q⟩:=q1;subst e;cases r1;obtain ⟨ad,rv,p,hz⟩:=I1.list hq;refine wpAny_pyIter_list p.isList ?_;refine ⟨s1.heap.objs.size,[s1.heap.objs.size],_,_,H1,rfl,I1.kept (t':=s1.toks) λb o e=>Heap.get?_push_of_some _ e,jtp a _,⟨_,Heap.get?_push_size _ rfl,rfl,rfl⟩,λb hb=>?_,q⟩;have e:b=s1.heap.objs.size:=by simpa using hb
 subst e;exact I1.fpOk (Nat.le_refl _) (I1.hok.fresh (Nat.le_refl _))
theorem j2a{l:Expr}{tl:TE}(hl:PE X l tl):PI X tg l (j4y X.K tl):=by
 intro pins s σ H R I h;refine thn (hl pins s σ H _ I h) λv s1 ⟨x,H1,I1,r1,q1⟩=>?_;obtain ⟨a,e,⟨xs,hq⟩,q⟩:=q1;subst e;cases r1;obtain ⟨ad,rv,p,hz⟩:=I1.tuple hq;refine wpAny_pyIter_tuple (show s1.heap.IsTuple a ad.toArray from p) ?_;refine ⟨s1.heap.objs.size,[s1.heap.objs.size],_,_,H1,rfl,I1.kept (t':=s1.toks) λb o e=>Heap.get?_push_of_some _ e,jrh a _,⟨_,Heap.get?_push_size _ rfl,rfl,rfl⟩,λb hb=>?_,q⟩;have e:b=s1.heap.objs.size:=by simpa using hb
 subst e;exact I1.fpOk (Nat.le_refl _) (I1.hok.fresh (Nat.le_refl _))
def j4g(wi:TI)(g:TG)(tb:TS):TS:=λD σ H=>wi σ H λJ H1=>∃ W:Nat->Nat->St->Hp->Prop,(∃ m,W 0 m σ H1)/\∀ i m σ H,W i m σ H->
 (J.stop i H/\D.nx σ H)\/(J.go i H/\∃ N:St->Hp->Prop,(∀ σ' H',N σ' H'->∃ m',m' < m/\W (i + 1) m' σ' H')/\∀ x H',J.yld i H x H'->g x σ H' λσ2 H2=>tb { D with nx:=N,ct:=N,bk:=D.nx } σ2 H2)
def jhx(fp:List Addr)(h:Heap):List (Addr×Obj):=fp.filterMap λb=>(h.get? b).map λo=>(b,o)
theorem jg1{fp:List Addr}{h:Heap}{b:Addr}{o:Obj}(hb:b∈fp)(e:h.get? b=some o):(b,o)∈jhx fp h:=List.mem_filterMap.mpr ⟨b,hb,by rw [e];rfl⟩
theorem ju5{fp:List Addr}{h:Heap}{p:Addr×Obj}(hp:p∈jhx fp h):p.1∈fp/\h.get? p.1=some p.2:=by
 obtain ⟨b,hb,e⟩:=List.mem_filterMap.mp hp;cases q:h.get? b with
 | none=>rw [q] at e;cases e
 | some o =>
  rw [q] at e;have e':(b,o)=p:=Option.some.inj e
  subst e';exact ⟨hb,q⟩
theorem Inv.pinned{pins:List (Addr×Obj)}{σ:St}{H:Hp}{s:Shared}{fp:List Addr}(I:Inv X pins σ H s)(hf:∀ b∈fp,jd1 X pins H b)(ho:∀ b∈fp,∃ o,s.heap.get? b=some o/\∀ v,o.data≠.cell v):Inv X (pins ++ jhx fp s.heap) σ H s :=
 I.pins_of λp hp=>(List.mem_append.mp hp).elim (λz=>I.pin p (List.mem_append_right _ z)) λz=>by
  obtain ⟨hb,e⟩:=ju5 z;obtain ⟨f0,f1,f2,_⟩:=hf p.1 hb;obtain ⟨o,e',d⟩:=ho p.1 hb;rw [e] at e';cases e';exact ⟨e,f0,f1,f2,d⟩
theorem Inv.unpinned{pins pl:List (Addr×Obj)}{σ:St}{H:Hp}{s:Shared}(I:Inv X (pins ++ pl) σ H s):Inv X pins σ H s:=I.pins_of λp hp=>I.pin p (List.mem_append_right _ (List.mem_append_left _ hp))
theorem jdm{iter:Expr}{body:List Stmt}{wi:TI}{g:TG}{tb:TS}{pos:Pos}(hp:PassesOwn (model X.prog X.w) X.A X.env X.xe)(hc:X.calm=true)(hi:PI X tg iter wi)(hg:PG X tg g)(hb:PSs X body tb)
  (hs:∀ x,foldedSetIterable iter X.env x=pure x:=by intro _;rfl):PS X (.For tg iter body [] pos) (j4g wi g tb):=by
 intro pins s σ H D I h;refine wpAny_For (thn (hi pins s σ H _ I h) λv s1 h1=>thn h1 λitv s2 h2=>?_) hs;obtain ⟨it,fp,tn,J,H2,e,I2,T,st2,f2,W,⟨m0,w0⟩,turn⟩:=h2;subst e;have stat:∀ {H':Hp},(∀ b∈fp,H' b=none)->∀ b∈fp,jd1 X pins H' b:=λhn b hb=>⟨hn b hb,(f2 b hb).2⟩
 refine codeAny_forLoop_any (λn s'=>∃ i σ' H',Inv X pins σ' H' s'/\tn i s'.heap/\(∀ b∈fp,H' b=none)/\W i n σ' H') ?_ m0 ⟨0,σ,H2,I2,st2,λb hb=>(f2 b hb).1,w0⟩;rintro n s3 ⟨i,σ3,H3,I3,st3,fr3,w3⟩;rcases turn i n σ3 H3 w3 with ⟨stop,qn⟩ | ⟨go,N,hN,step⟩
 ·refine wpAny_passesOwn hp (thn (T.done X rfl rfl rfl hc i pins s3 σ3 H3 X.xe I3 (stat fr3) st3 stop) λr s4 ⟨hr,I4⟩=>?_);subst hr;exact wpAny_execs_nil ⟨σ3,H3,I4,qn⟩
 ·refine wpAny_passesOwn hp (thn (T.item X rfl rfl rfl hc i pins s3 σ3 H3 X.xe I3 (stat fr3) st3 go) λr s4 ⟨u,hr,h4⟩=>?_);subst hr;refine wpAny_passesOwn hp (thn h4 λ_ s5 ⟨x,H5,I5,r5,y5,st5,fr5⟩=>?_);have I5':=I5.pinned (stat fr5) (T.obj _ _ st5)
  refine wpAny_passesOwn hp (thn (hg _ s5 σ3 H5 x u _ I5' r5 (step x H5 y5)) λ_ s6 ⟨σ6,H6,I6,q6⟩=>?_);refine wpAny_passesOwn hp (thn (hb _ s6 σ6 H6 _ I6 q6) λf s7 q7=>?_);have again:∀ {σ7:St} {H7:Hp},Inv X (pins ++ jhx fp s5.heap) σ7 H7 s7->N σ7 H7->∃ m,m < n/\∃ i σ' H',Inv X pins σ' H' s7/\tn i s7.heap/\(∀ b∈fp,H' b=none)/\W i m σ' H':=λ{σ7 H7} I7 n7=>by
   obtain ⟨m',hm,w7⟩:=hN σ7 H7 n7;refine ⟨m',hm,i + 1,σ7,H7,I7.unpinned,T.keep _ _ _ st5 λb hb o e=>(I7.pin (b,o) (List.mem_append_right _ (List.mem_append_right _ (jg1 hb e)))).1,λb hb=>?_,w7⟩;obtain ⟨o,e,d⟩:=T.obj _ _ st5 b hb;exact (I7.pin (b,o) (List.mem_append_right _ (List.mem_append_right _ (jg1 hb e)))).2.1
  cases f with
  | next=>obtain ⟨σ7,H7,I7,n7⟩:=q7;exact again I7 n7
  | cont=>obtain ⟨σ7,H7,I7,n7⟩:=q7;exact again I7 n7
  | brk=>obtain ⟨σ7,H7,I7,q7⟩:=q7;exact ⟨σ7,H7,I7.unpinned,q7⟩
  | ret v=>obtain ⟨x7,σ7,H7,I7,r7,q7⟩:=q7;exact ⟨x7,σ7,H7,I7.unpinned,r7,q7⟩
end
abbrev R2:=V->V->Hp->VK->Prop
def OpR(X:Cx)(f:Value->Value->Sem Value)(r:R2):Prop :=
 ∀ (pins:List (Addr×Obj)) (s:Shared) (σ:St) (H:Hp) (x y:V) (v u:Value) (Q:VK),Inv X pins σ H s->xm x v->xm y u->r x y H Q->
  wpAny (model X.prog X.w) X.A (f v u) (EP X pins σ Q) X.xe s
def UnR(X:Cx)(f:Value->Sem Value)(r:V->Hp->VK->Prop):Prop :=
 ∀ (pins:List (Addr×Obj)) (s:Shared) (σ:St) (H:Hp) (x:V) (v:Value) (Q:VK),Inv X pins σ H s->xm x v->r x H Q->
  wpAny (model X.prog X.w) X.A (f v) (EP X pins σ Q) X.xe s
def jei(X:Cx)(f:Value)(r:List V->Hp->VK->Prop):Prop :=
 ∀ (pins:List (Addr×Obj)) (s:Shared) (σ:St) (H:Hp) (xs:List V) (us:List Value) (Q:VK),Inv X pins σ H s->qw xs us->r xs H Q->
  wpAny (model X.prog X.w) X.A (call f us) (EP X pins σ Q) X.xe s
def tOp(r:R2)(ta tb:TE):TE:=λσ H Q=>ta σ H λx H1=>tb σ H1 λy H2=>r x y H2 Q
def tUn(r:V->Hp->VK->Prop)(ta:TE):TE:=λσ H Q=>ta σ H λx H1=>r x H1 Q
def rI(C:Int->Int->Prop)(g:Int->Int->V):R2:=λx y H Q=>∃ i j,x = .int i/\y = .int j/\C i j/\Q (g i j) H
def rI0(g:Int->Int->V):R2:=λx y H Q=>∃ i j,x = .int i/\y = .int j/\Q (g i j) H
def rU(g:Int->V):V->Hp->VK->Prop:=λx H Q=>∃ i,x = .int i/\Q (g i) H
section
variable{X:Cx}{a b c:Expr}{ta tb tc:TE}{pos:Pos}
theorem jyh(ha:PE X a ta)(hb:PE X b tb){pins:List (Addr×Obj)}{s:Shared}{σ:St}{H:Hp}{R:V->V->Hp->Prop}(I:Inv X pins σ H s)
  (h:ta σ H λx H1=>tb σ H1 λy H2=>R x y H2) {Q:Value->Shared->Prop} {f:Value->Value->Sem Value}
  (hf:∀ v u s2 x y H2,Inv X pins σ H2 s2->xm x v->xm y u->R x y H2->wpAny (model X.prog X.w) X.A (f v u) Q X.xe s2) :
  wpAny (model X.prog X.w) X.A (eval a X.env) (λv s₁=>wpAny (model X.prog X.w) X.A (eval b X.env) (λu s₂=>wpAny (model X.prog X.w) X.A (f v u) Q X.xe s₂) X.xe s₁) X.xe s:=by
 refine thn (ha pins s σ H _ I h) λv s1 ⟨x,H1,I1,r1,q1⟩=>?_;refine thn (hb pins s1 σ H1 _ I1 q1) λu s2 ⟨y,H2,I2,r2,q2⟩=>?_;exact hf v u s2 x y H2 I2 r1 r2 q2
theorem qa{op:Operator}{r:R2}(ho:OpR X (binaryOp op) r)(ha:PE X a ta)(hb:PE X b tb):PE X (.BinOp a op b pos) (tOp r ta tb):=by
 intro pins s σ H Q I h;exact wpAny_BinOp (jyh ha hb I h λv u s2 x y H2 I2 rx ry q=>ho pins s2 σ H2 x y v u Q I2 rx ry q)
theorem j3p{op:UnaryOp}{r:V->Hp->VK->Prop}(ho:UnR X (unaryOp op) r)(ha:PE X a ta):PE X (.UnaryOp op a pos) (tUn r ta):=by
 intro pins s σ H Q I h;exact UnaryOp_ (thn (ha pins s σ H _ I h) λv s1 ⟨x,H1,I1,r1,q1⟩=>ho pins s1 σ H1 x v Q I1 r1 q1)
theorem opI{f:Value->Value->Sem Value}{C:Int->Int->Prop}{g:Int->Int->Int}
  (rule:∀ (i j:Int) (t u:Tok) (s:Shared) (Q:Value->Shared->Prop) (E:Value->Shared->Prop),C i j->Q (.int (g i j) s.toks) { s with toks:=s.toks + 1 }->wpAny (model X.prog X.w) X.A (f (.int i t) (.int j u)) Q E s) :
  OpR X f (rI C λi j=>.int (g i j)):=by
 intro pins s σ H x y v u Q I rx ry h;obtain ⟨i,j,rfl,rfl,hc,q⟩:=h;obtain ⟨t,rfl⟩:=rx;obtain ⟨t',rfl⟩:=ry;exact rule i j t t' s _ _ hc ⟨.int (g i j),H,I.tok _,⟨_,rfl⟩,q⟩
theorem j2i{f:Value->Value->Sem Value}{g:Int->Int->Int}
  (rule:∀ (i j:Int) (t u:Tok) (s:Shared) (Q:Value->Shared->Prop) (E:Value->Shared->Prop),Q (.int (g i j) s.toks) { s with toks:=s.toks + 1 }->wpAny (model X.prog X.w) X.A (f (.int i t) (.int j u)) Q E s) :
  OpR X f (rI0 λi j=>.int (g i j)):=by
 intro pins s σ H x y v u Q I rx ry h;obtain ⟨i,j,rfl,rfl,q⟩:=h;obtain ⟨t,rfl⟩:=rx;obtain ⟨t',rfl⟩:=ry;exact rule i j t t' s _ _ ⟨.int (g i j),H,I.tok _,⟨_,rfl⟩,q⟩
theorem jxb{f:Value->Value->Sem Value}{g:Int->Int->Bool}
  (rule:∀ (i j:Int) (t u:Tok) (s:Shared) (Q:Value->Shared->Prop) (E:Value->Shared->Prop),Q (.bool (g i j)) s->wpAny (model X.prog X.w) X.A (f (.int i t) (.int j u)) Q E s) :
  OpR X f (rI0 λi j=>.bl (g i j)):=by
 intro pins s σ H x y v u Q I rx ry h;obtain ⟨i,j,rfl,rfl,q⟩:=h;obtain ⟨t,rfl⟩:=rx;obtain ⟨t',rfl⟩:=ry;exact rule i j t t' s _ _ ⟨.bl (g i j),H,I,rfl,q⟩
def jys(i j:Int):Prop:=(-(2 ^ 64) < i/\i < 2 ^ 64)\/(-(2 ^ 64) < j/\j < 2 ^ 64)
theorem jys.ok{i j:Int}(h:jys i j):IntMulOk i j:=by
 rcases h with ⟨h1,h2⟩ | ⟨h1,h2⟩
 ·exact .of_left (intBits_le_64 h1 h2)
 ·exact .of_right (intBits_le_64 h1 h2)
theorem jbx:OpR X (binaryOp .Add) (rI0 λi j=>.int (i + j)):=j2i λ_ _ _ _ _ _ _ q=>add_int q
theorem jhy:OpR X (binaryOp .Sub) (rI0 λi j=>.int (i - j)):=j2i λ_ _ _ _ _ _ _ q=>sub_int q
theorem j2h:OpR X (binaryOp .Mult) (rI jys λi j=>.int (i * j)):=opI λ_ _ _ _ _ _ _ hc q=>mul_int q hc.ok
theorem unI{f:Value->Sem Value}{g:Int->Int}
  (rule:∀ (i:Int) (t:Tok) (s:Shared) (Q:Value->Shared->Prop) (E:Value->Shared->Prop),Q (.int (g i) s.toks) { s with toks:=s.toks + 1 }->wpAny (model X.prog X.w) X.A (f (.int i t)) Q E s) :
  UnR X f (rU λi=>.int (g i)):=by
 intro pins s σ H x v Q I rx h;obtain ⟨i,rfl,q⟩:=h;obtain ⟨t,rfl⟩:=rx;exact rule i t s _ _ ⟨.int (g i),H,I.tok _,⟨_,rfl⟩,q⟩
theorem j0_:UnR X (unaryOp .USub) (rU λi=>.int (-i)):=unI λ_ _ _ _ _ q=>neg_int q
def j1l:V->V->Bool
 | .non,.non=>true | .non,.int _=>true | .int _,.non=>true | .non,.bl _=>true | .bl _,.non=>true | .non,.str _=>true | .str _,.non=>true
 | .int _,.int _=>true | .bl _,.bl _=>true | .str _,.str _=>true | .byt _,.byt _=>true
 | .int _,.str _=>true | .str _,.int _=>true | .bl _,.str _=>true | .str _,.bl _=>true
 | _,_=>false
def rEq:R2:=λx y H Q=>j1l x y=true/\Q (.bl (decide (x=y))) H
def rNe:R2:=λx y H Q=>j1l x y=true/\Q (.bl (!decide (x=y))) H
theorem jq7{i j:Int}:decide (V.int i=V.int j)=(i == j):=by
 rw [Bool.eq_iff_iff];simp
theorem jvy{i j:Bool}:decide (V.bl i=V.bl j)=(i == j):=by
 rw [Bool.eq_iff_iff];simp
theorem jq6{i j:Str}:decide (V.str i=V.str j)=(i == j):=by
 rw [Bool.eq_iff_iff];simp
theorem jq8{i j:Array UInt8}:decide (V.byt i=V.byt j)=(i.toList == j.toList):=by
 rw [Bool.eq_iff_iff];cases i;cases j;simp
theorem ya{pins:List (Addr×Obj)}{σ:St}{H:Hp}{s:Shared}{Q:VK}{k k':Bool}(I:Inv X pins σ H s)(q:Q (.bl k) H)(e:k=k'):EP X pins σ Q (.bool k') s:=by
 subst e;exact ⟨.bl k,H,I,rfl,q⟩
theorem xi:OpR X (compareOp .Eq) rEq:=by
 intro pins s σ H x y v u Q I rx ry h;obtain ⟨hs,q⟩:=h;cases x with
 | non =>
  cases rx;cases y with
  | non=>cases ry;exact PySem.EqNone.eq_none_none (ya I q (by simp))
  | bl j=>cases ry;exact PySem.EqNone.eq_none_bool (ya I q (by simp))
  | int j=>obtain ⟨t',rfl⟩:=ry;exact PySem.EqNone.eq_none_int (ya I q (by simp))
  | str j=>obtain ⟨t',rfl⟩:=ry;exact PySem.EqNone.eq_none_str (ya I q (by simp))
  | _=>exact absurd (show false=true from hs) Bool.false_ne_true
 | bl i =>
  cases rx;cases y with
  | non=>cases ry;exact PySem.EqNone.eq_bool_none (ya I q (by simp))
  | bl j=>cases ry;exact eq_bool (ya I q jvy)
  | str j=>obtain ⟨t',rfl⟩:=ry;exact PySem.EqMixed.eq_bool_str (ya I q (by simp))
  | _=>exact absurd (show false=true from hs) Bool.false_ne_true
 | int i =>
  obtain ⟨t,rfl⟩:=rx;cases y with
  | non=>cases ry;exact PySem.EqNone.eq_int_none (ya I q (by simp))
  | int j=>obtain ⟨t',rfl⟩:=ry;exact eq_int (ya I q jq7)
  | str j=>obtain ⟨t',rfl⟩:=ry;exact PySem.EqMixed.eq_int_str (ya I q (by simp))
  | _=>exact absurd (show false=true from hs) Bool.false_ne_true
 | str i =>
  obtain ⟨t,rfl⟩:=rx;cases y with
  | non=>cases ry;exact PySem.EqNone.eq_str_none (ya I q (by simp))
  | bl j=>cases ry;exact PySem.EqMixed.eq_str_bool (ya I q (by simp))
  | int j=>obtain ⟨t',rfl⟩:=ry;exact PySem.EqMixed.eq_str_int (ya I q (by simp))
  | str j=>obtain ⟨t',rfl⟩:=ry;exact eq_str (ya I q jq6)
  | _=>exact absurd (show false=true from hs) Bool.false_ne_true
 | byt i =>
  obtain ⟨t,rfl⟩:=rx;cases y with
  | byt j=>obtain ⟨t',rfl⟩:=ry;exact PySem.W.eq_bytes (ya I q jq8)
  | _=>exact absurd (show false=true from hs) Bool.false_ne_true
 | _=>cases y <;> exact absurd (show false=true from hs) Bool.false_ne_true
theorem jea:OpR X (compareOp .NotEq) rNe:=by
 intro pins s σ H x y v u Q I rx ry h;obtain ⟨hs,q⟩:=h;cases x with
 | non =>
  cases rx;cases y with
  | non=>cases ry;exact PySem.EqNone.ne_none_none (ya I q (by simp))
  | bl j=>cases ry;exact PySem.EqNone.ne_none_bool (ya I q (by simp))
  | int j=>obtain ⟨t',rfl⟩:=ry;exact PySem.EqNone.ne_none_int (ya I q (by simp))
  | str j=>obtain ⟨t',rfl⟩:=ry;exact PySem.EqNone.ne_none_str (ya I q (by simp))
  | _=>exact absurd (show false=true from hs) Bool.false_ne_true
 | bl i =>
  cases rx;cases y with
  | non=>cases ry;exact PySem.EqNone.ne_bool_none (ya I q (by simp))
  | bl j=>cases ry;exact ne_bool (ya I q (congrArg not jvy))
  | str j=>obtain ⟨t',rfl⟩:=ry;exact PySem.EqMixed.ne_bool_str (ya I q (by simp))
  | _=>exact absurd (show false=true from hs) Bool.false_ne_true
 | int i =>
  obtain ⟨t,rfl⟩:=rx;cases y with
  | non=>cases ry;exact PySem.EqNone.ne_int_none (ya I q (by simp))
  | int j=>obtain ⟨t',rfl⟩:=ry;exact ne_int (ya I q (congrArg not jq7))
  | str j=>obtain ⟨t',rfl⟩:=ry;exact PySem.EqMixed.ne_int_str (ya I q (by simp))
  | _=>exact absurd (show false=true from hs) Bool.false_ne_true
 | str i =>
  obtain ⟨t,rfl⟩:=rx;cases y with
  | non=>cases ry;exact PySem.EqNone.ne_str_none (ya I q (by simp))
  | bl j=>cases ry;exact PySem.EqMixed.ne_str_bool (ya I q (by simp))
  | int j=>obtain ⟨t',rfl⟩:=ry;exact PySem.EqMixed.ne_str_int (ya I q (by simp))
  | str j=>obtain ⟨t',rfl⟩:=ry;exact ne_str (ya I q (congrArg not jq6))
  | _=>exact absurd (show false=true from hs) Bool.false_ne_true
 | byt i =>
  obtain ⟨t,rfl⟩:=rx;cases y with
  | byt j=>obtain ⟨t',rfl⟩:=ry;exact PySem.W.ne_bytes (ya I q (congrArg not jq8))
  | _=>exact absurd (show false=true from hs) Bool.false_ne_true
 | _=>cases y <;> exact absurd (show false=true from hs) Bool.false_ne_true
theorem jgw:OpR X (compareOp .Lt) (rI0 λi j=>.bl (decide (i < j))):=jxb λ_ _ _ _ _ _ _ q=>lt_int q
theorem jeb:OpR X (compareOp .LtE) (rI0 λi j=>.bl (decide (i<=j))):=jxb λ_ _ _ _ _ _ _ q=>le_int q
theorem jec:OpR X (compareOp .Gt) (rI0 λi j=>.bl (decide (j < i))):=jxb λ_ _ _ _ _ _ _ q=>gt_int q
theorem j9(b:Expr){op:CmpOp}(h:op≠.In:=by decide)(h2:op≠.NotIn:=by decide):behindInMarks op b=false:=by
 have e1:(op == CmpOp.In)=false:=by cases op <;> first | rfl | exact absurd rfl h
 have e2:(op == CmpOp.NotIn)=false:=by cases op <;> first | rfl | exact absurd rfl h2
 cases b <;> simp [behindInMarks,e1,e2]
theorem jim{op:CmpOp}{r:R2}(ho:OpR X (compareOp op) r)(ha:PE X a ta)(hb:PE X b tb)(hm:behindInMarks op b=false):PE X (.Compare a [op] [b] pos) (tOp r ta tb):=by
 intro pins s σ H Q I h;exact wpAny_Compare1 (jyh ha hb I h λv u s2 x y H2 I2 rx ry q=>ho pins s2 σ H2 x y v u Q I2 rx ry q) hm
def jc8(t:TE):TT:=λσ H Q=>t σ H λx H'=>∃ k,x = .bl k/\Q k H'
theorem js{op:CmpOp}{r:R2}(ho:OpR X (compareOp op) r)(ha:PE X a ta)(hb:PE X b tb)(hm:behindInMarks op b=false):PT X (.Compare a [op] [b] pos) (jc8 (tOp r ta tb)):=by
 intro pins s σ H Q I h;refine wpAny_isTrue_Compare1 (thn (ha pins s σ H _ I h) λv s1 ⟨x,H1,I1,r1,q1⟩=>thn (hb pins s1 σ H1 _ I1 q1) λu s2 ⟨y,H2,I2,r2,q2⟩ =>
  thn (ho pins s2 σ H2 x y v u _ I2 r1 r2 q2) λc s3 ⟨z,H3,I3,r3,k,e,q3⟩=>?_) hm
 subst e;cases r3;exact wpAny_truthy_bool ⟨H3,I3,q3⟩
def jtw(r r':R2)(ta tb tc:TE):TE:=λσ H Q=>ta σ H λx H1=>tb σ H1 λy H2=>r x y H2 λz H3=>∃ k,z = .bl k/\
 (if k=true then tc σ H3 λw' H4=>r' y w' H4 Q else Q (.bl false) H3)
theorem jjj{op op':CmpOp}{r r':R2}(ho:OpR X (compareOp op) r)(ho':OpR X (compareOp op') r')(ha:PE X a ta)(hb:PE X b tb)(hc:PE X c tc)
  (hm:lastMarks [op,op'] [b,c]=false:=by with_unfolding_all rfl):PE X (.Compare a [op,op'] [b,c] pos) (jtw r r' ta tb tc):=by
 intro pins s σ H Q I h;refine Compare_chain (thn (ha pins s σ H _ I h) λv s1 ⟨x,H1,I1,r1,q1⟩=>chain_link (thn (hb pins s1 σ H1 _ I1 q1) λu s2 ⟨y,H2,I2,r2,q2⟩ =>
  thn (ho pins s2 σ H2 x y v u _ I2 r1 r2 q2) λd s3 ⟨z,H3,I3,r3,k,e,q3⟩=>?_)) hm
 subst e;cases r3;refine wpAny_truthy_bool ?_;cases k with
 | false=>exact ite_ff ⟨.bl false,H3,I3,rfl,q3⟩
 | true=>exact ite_tt (chain_last (thn (hc pins s3 σ H3 _ I3 q3) λw' s4 ⟨z',H4,I4,r4,q4⟩=>ho' pins s4 σ H4 y z' u w' Q I4 r2 r4 q4))
theorem jod{op op':CmpOp}{r r':R2}(ho:OpR X (compareOp op) r)(ho':OpR X (compareOp op') r')(ha:PE X a ta)(hb:PE X b tb)(hc:PE X c tc)
  (hm:lastMarks [op,op'] [b,c]=false:=by with_unfolding_all rfl):PT X (.Compare a [op,op'] [b,c] pos) (jc8 (jtw r r' ta tb tc)):=by
 intro pins s σ H Q I h;refine isTrue_chain (thn (ha pins s σ H _ I h) λv s1 ⟨x,H1,I1,r1,q1⟩=>test_link (thn (hb pins s1 σ H1 _ I1 q1) λu s2 ⟨y,H2,I2,r2,q2⟩ =>
  thn (ho pins s2 σ H2 x y v u _ I2 r1 r2 q2) λd s3 ⟨z,H3,I3,r3,k,e,q3⟩=>?_)) hm
 subst e;cases r3;refine wpAny_truthy_bool ?_;cases k with
 | false =>
  obtain ⟨k',e',q'⟩:=q3;cases e';exact ite_ff ⟨H3,I3,q'⟩
 | true =>
  refine ite_tt (test_last (thn (hc pins s3 σ H3 _ I3 q3) λw' s4 ⟨z',H4,I4,r4,q4⟩=>thn (ho' pins s4 σ H4 y z' u w' _ I4 r2 r4 q4) λd' s5 ⟨z2,H5,I5,r5,k2,e2,q5⟩=>?_));subst e2;cases r5;exact wpAny_truthy_bool ⟨H5,I5,q5⟩
theorem jh0:(sizeLine:Nat) < 2 ^ 63:=by rw [sizeLine_eq];decide
theorem jr7:OpR X (binaryOp .Add) (λx y H Q=>∃ i j,x = .str i/\y = .str j/\i.length + j.length<=sizeLine/\Q (.str (i ++ j)) H):=by
 intro pins s σ H x y v u Q I rx ry h;obtain ⟨i,j,rfl,rfl,hz,q⟩:=h;obtain ⟨t,rfl⟩:=rx;obtain ⟨t',rfl⟩:=ry;exact add_str (λt' tk=>⟨.str (i ++ j),H,I.tok _,⟨_,rfl⟩,q⟩) hz
theorem jpx:OpR X (inplaceOp .Add) (λx y H Q=>∃ i j,x = .str i/\y = .str j/\i.length + j.length<=sizeLine/\Q (.str (i ++ j)) H):=by
 intro pins s σ H x y v u Q I rx ry h;obtain ⟨i,j,rfl,rfl,hz,q⟩:=h;obtain ⟨t,rfl⟩:=rx;obtain ⟨t',rfl⟩:=ry;exact iadd_str (λt' tk=>⟨.str (i ++ j),H,I.tok _,⟨_,rfl⟩,q⟩) hz
theorem jid{x:V}{us:List Value}(r:qw [x] us):∃ u,us=[u]/\xm x u:=by
 cases r with
 | cons r1 r2=>cases r2;exact ⟨_,rfl,r1⟩
theorem jo8:jei X (.type "str") (λxs H Q=>∃ i,xs=[.int i]/\i.natAbs.log2 < 1920/\Q (.str (toString i)) H):=by
 intro pins s σ H xs us Q I r h;obtain ⟨i,rfl,hz,q⟩:=h;obtain ⟨u,rfl,t,rfl⟩:=jid r;exact PySem.P.str_of_int hz ⟨.str _,H,I.tok _,⟨_,rfl⟩,q⟩
theorem jyc:jei X (.builtin "ord") (λxs H Q=>∃ x,xs=[.str x]/\x.length=1/\Q (.int (x.cps.getD 0 0:Nat)) H):=by
 intro pins s σ H xs us Q I r h;obtain ⟨x,rfl,hz,q⟩:=h;obtain ⟨u,rfl,t,rfl⟩:=jid r;exact ord_of_one hz ⟨.int _,H,I.tok _,⟨_,rfl⟩,q⟩
end
structure jjw(h:Heap)(x dx C:Addr)(mA:Str->Option Value):Prop where
 obj:h.get? x=some (PySem.W.instObj C dx)
 ns:h.Ns1 dx mA
 ne:dx≠x
theorem jvf{h:Heap}{dx:Addr}{mA:Str->Option Value}(n:h.Ns1 dx mA):∃ od,h.get? dx=some od/\∀ name,PySem.W.lookIn name od=some (mA name):=by
 obtain ⟨o,es,ep,ho,hd,hk,_,hm⟩:=n;refine ⟨o,ho,λname=>?_⟩;have e:=hm name
 unfold nsFind findBy at e;rw [<- Array.find?_toList] at e;unfold PySem.W.lookIn;rw [hd];dsimp only;split
 ·rename_i y q;rw [q] at e;exact congrArg some e
 ·rename_i q;rw [q] at e;have a:es.toList.any (·.refKey)=false:=by
   rw [List.any_eq_false];intro y hy;obtain ⟨z,t,hkey⟩:=hk y (Array.mem_toList_iff.mp hy);simp [DictEntry.refKey,hkey]
  have a':¬ es.toList.any (·.refKey)=true:=by rw [a];exact Bool.false_ne_true
  rw [if_neg a'];exact congrArg some e
theorem jjw.look{h:Heap}{x dx C:Addr}{mA:Str->Option Value}(I:jjw h x dx C mA):∃ od,PySem.W.InstAt h x (PySem.W.instObj C dx) C (some od)/\∀ name,PySem.W.lookIn name od=some (mA name) :=
 let ⟨od,ho,hl⟩:=jvf I.ns
 ⟨od,⟨I.obj,rfl,rfl,ho⟩,hl⟩
section
variable{prog:Program}{w:World}{A:Around}{E:Value->Shared->Prop}{s:Shared}{K:W.Frag}{x dx C f:Addr}{mA:Str->Option Value}{name:Str}{v:Value}
theorem j0u{expr:Bool}{Q:Value->Shared->Prop}(X:K.In s.heap)(I:jjw s.heap x dx C mA)(hg:PySem.W.plainGet K C name=true)(hh:PySem.W.hasDictIn K C=true)
  (ha:PySem.W.findIn K (.ref C) name=some none) (hv:mA name=some v) (hv':PySem.W.handedIn v=true) (h:Q v { s with toks:=s.toks + 1 }) :
  wpAny (model prog w) A (getAttr (.ref x) name expr) Q E s:=by
 obtain ⟨od,J,hl⟩:=I.look;exact PySem.W.get_value X J (PySem.W.plainGet_of hg).1 (PySem.W.findObj_own hh ha rfl (by rw [hl,hv])) hv' h
theorem jx7{pl:Sem Bool}{Q:Value×List Value->Shared->Prop}(X:K.In s.heap)(I:jjw s.heap x dx C mA)(hg:PySem.W.plainGet K C name=true)
  (hf:PySem.W.findIn K (.ref C) name=some (some (.ref f))) (ht:PySem.W.isFn K (.ref f)=true) (hv:mA name=none) (h:Q (.ref f,[.ref x]) s) :
  wpAny (model prog w) A (getMethod (.ref x) name pl) Q E s:=by
 obtain ⟨od,J,hl⟩:=I.look;exact PySem.W.method_fn X J (PySem.W.plainGet_of hg).1 (PySem.W.plainGet_of hg).2 hf (beq_iff_eq.mp ht) (by show (PySem.W.lookIn name od).map (·.isSome)=some false;rw [hl,hv];rfl) h
theorem jzk{ns:List Str}{Q:Unit->Shared->Prop}(X:K.In s.heap)(I:jjw s.heap x dx C mA)
  (hs:PySem.W.findIn K (.ref C) "__setattr__"=some (some (.builtin "object.__setattr__"))) (hp:PySem.W.plainOver K C=true) (ht:PySem.W.takerIn K C name=some none) (hh:PySem.W.hasDictIn K C=true)
  (hw:PySem.Within mA ns) (hsz:ns.length<=sizeLine)
  (h:∀ h',jjw h' x dx C (λy=>if y=name then some v else mA y)->Heap.SameBut dx s.heap h'->Q () { s with heap:=h',toks:=s.toks + 2 }) :
  wpAny (model prog w) A (setAttr (.ref x) name v) Q E s:=by
 obtain ⟨od,J,hl⟩:=I.look;refine PySem.W.set_plain X J hs (PySem.W.osa_open (s:={ s with toks:=s.toks + 1 }) (r:=none) X J hp ht λb=>?_);obtain ⟨cd,hc,hd'⟩:=PySem.W.any_some hh;have hx:s.heap.get? x=some ⟨.ref C,some dx,.plain,#[]⟩:=I.obj
 refine wpAny_bind (wpAny_pure (wpAny_bind (wpAny_bind (wpAny_loadPart hx (wpAny_bind (PySem.W.Looks.here (s:={ s with toks:=s.toks + 1 }) (PySem.W.looks_clsIn X hc) ?_))))));rw [hd'];refine wpAny_pure (a:=some dx) (wpAny_bind (wpAny_pure (wpAny_bind ?_)));refine wpAny_nsSet1 (s:={ s with toks:=s.toks + 1 }) I.ns λh' hn2 hs2=>?_;obtain ⟨oD,esD,epD,hoD,hdD,hcD⟩:=hn2.count (PySem.Within.cons name v hw);refine wpAny_bind (wpAny_lookBehind hoD (by rw [hdD];exact pastItsLine_dict (Nat.le_trans hcD (by rw [List.length_cons];omega))) ?_);exact wpAny_pure (h _ ⟨(hs2.2 _ (Ne.symm I.ne)).trans I.obj,hn2,I.ne⟩ hs2)
theorem jxy{R:Result->Shared->Prop}{vs:List Value}{kw:List (Str×Value)}(X:K.In s.heap)(hm:PySem.W.makesIn K C=true)
  (hi:PySem.W.findIn K (.ref C) "__init__"=some (some (.ref f))) (hf:PySem.W.typeIn K (.ref f)=some (.type "function"))
  (h:codeAny (model prog w) (A.under (.builtin "type.__call__" ⟨.ref C::vs,kw⟩)) (.call (.ref f) ⟨.ref (s.heap.objs.size + 1)::vs,kw⟩) (PySem.W.InitBack (s.heap.objs.size + 1) R)
   { s with heap:=(s.heap.push PySem.W.emptyDict).push (PySem.W.instObj C s.heap.objs.size) }) :
  codeAny (model prog w) A (.call (.ref C) ⟨vs,kw⟩) R s:=by
 obtain ⟨hh,g,d,t,os⟩:=s;exact PySem.W.make_core (PySem.W.makes_of X hm) (PySem.W.looks_findIn X hi) (λself=>PySem.W.bind_fn X self hf) (.inl rfl) h
end
def jah(f:Str)(v:V):List (Str×V)->List (Str×V)
 | []=>[(f,v)]
 | (g,x)::r=>if g=f then (g,v)::r else (g,x)::jah f v r
theorem jfo(f g:Str)(v:V):∀ fs:List (Str×V),(jah f v fs).lookup g=if g=f then some v else fs.lookup g
 | []=>by
  show List.lookup g [(f,v)]=_;by_cases h:g=f
  ·have hb:(g == f)=true:=beq_iff_eq.mpr h;simp only [List.lookup,hb,if_pos h]
  ·have hb:(g == f)=false:=beq_eq_false_iff_ne.mpr h;simp only [List.lookup,hb,if_neg h]
 | (k,x)::r=>by
  have ih:=jfo f g v r;rw [show jah f v ((k,x)::r)=(if k=f then (k,v)::r else (k,x)::jah f v r) from rfl];by_cases hk:k=f
  ·rw [if_pos hk];by_cases h:g=k
   ·have hb:(g == k)=true:=beq_iff_eq.mpr h;simp only [List.lookup,hb,if_pos (h.trans hk)]
   ·have hb:(g == k)=false:=beq_eq_false_iff_ne.mpr h;simp only [List.lookup,hb,if_neg (λe:g=f=>h (e.trans hk.symm))]
  ·rw [if_neg hk];by_cases h:g=k
   ·have hb:(g == k)=true:=beq_iff_eq.mpr h;simp only [List.lookup,hb,if_neg (λe:g=f=>hk (h.symm.trans e))]
   ·have hb:(g == k)=false:=beq_eq_false_iff_ne.mpr h;simp only [List.lookup,hb];exact ih
theorem jdq(f:Str)(v:V):∀ fs:List (Str×V),f∈(jah f v fs).map (·.1)/\∀ g,g∈fs.map (·.1)->g∈(jah f v fs).map (·.1)
 | []=>⟨by simp [jah],λg h=>by simp at h⟩
 | (k,x)::r=>by
  obtain ⟨i1,i2⟩:=jdq f v r;rw [show jah f v ((k,x)::r)=(if k=f then (k,v)::r else (k,x)::jah f v r) from rfl];by_cases hk:k=f
  ·rw [if_pos hk];subst hk;exact ⟨by simp,λg h=>by simpa using h⟩
  ·rw [if_neg hk];refine ⟨?_,λg h=>?_⟩
   ·rw [List.map_cons];exact List.mem_cons_of_mem _ i1
   ·rw [List.map_cons] at h ⊢;rcases List.mem_cons.mp h with e | e
    ·exact List.mem_cons.mpr (.inl e)
    ·exact List.mem_cons_of_mem _ (i2 g e)
theorem ji1(f:Str)(v:V):∀ fs:List (Str×V),(jah f v fs).length<=fs.length + 1
 | []=>by simp [jah]
 | (k,x)::r=>by
  have ih:=ji1 f v r;rw [show jah f v ((k,x)::r)=(if k=f then (k,v)::r else (k,x)::jah f v r) from rfl];by_cases hk:k=f
  ·rw [if_pos hk,List.length_cons,List.length_cons];omega
  ·rw [if_neg hk,List.length_cons,List.length_cons];omega
theorem vw.some_of{v:V}{o:Option Value}(r:vw (some v) o):∃ u,o=some u/\xm v u:=by
 cases o with
 | none=>exact (show False from r).elim
 | some u=>exact ⟨u,rfl,r⟩
theorem vw.none_of{o:Option Value}(r:vw none o):o=none:=by
 cases o with
 | none=>rfl
 | some u=>exact (show False from r).elim
theorem jvo{v:V}{u:Value}(r:xm v u):PySem.W.handedIn u=true:=by
 cases v with
 | non=>cases (show u=Value.none from r);rfl
 | bl b=>cases (show u=Value.bool b from r);rfl
 | int i=>obtain ⟨t,e⟩:=(show ∃ t,u=Value.int i t from r);cases e;rfl
 | str x=>obtain ⟨t,e⟩:=(show ∃ t,u=Value.str x t from r);cases e;rfl
 | byt b=>obtain ⟨t,e⟩:=(show ∃ t,u=Value.bytes b t from r);cases e;rfl
 | flt b=>obtain ⟨t,e⟩:=(show ∃ t,u=Value.float b t from r);cases e;rfl
 | ref a=>cases (show u=Value.ref a from r);rfl
 | ty n=>cases (show u=Value.type n from r);rfl
section
variable{P:Program}{w:World}{H H':Hp}{h h':Heap}{a C dx:Addr}{fs fs':List (Str×V)}
theorem jlr(hok:HOk P w H h)(e:H a=some (.ins C dx fs)):∃ mA,jjw h a dx C mA/\(∀ f,vw (fs.lookup f) (mA f))/\PySem.Within mA (fs.map (·.1))/\fs.length<=1000/\H dx=some (.own a):=by
 obtain ⟨d,z,ne,ob,mA,n,r,q⟩:=(show y_ P w H h a (.ins C dx fs) from hok a _ e)
 exact ⟨mA,⟨ob,n,ne⟩,r,q,z,d⟩
end
structure Cls(K:W.Frag)(C:Addr):Prop where
 pg:PySem.W.plainGet K C Str.empty=true
 hd:PySem.W.hasDictIn K C=true
 po:PySem.W.plainOver K C=true
 sa:PySem.W.findIn K (.ref C) "__setattr__"=some (some (.builtin "object.__setattr__"))
theorem Cls.get{K:W.Frag}{C:Addr}(c:Cls K C)(f:Str):PySem.W.plainGet K C f=true:=c.pg
def jdu(K:W.Frag)(C:Addr)(f:Str):Prop:=PySem.W.findIn K (.ref C) f=some none
theorem jdu.taker{K:W.Frag}{C:Addr}{f:Str}(n:jdu K C f):PySem.W.takerIn K C f=some none:=by
 unfold PySem.W.takerIn;rw [show PySem.W.findIn K (.ref C) f=some none from n];rfl
structure jlz(K:W.Frag)(C:Addr)(m:Str)(f:Addr):Prop where
 at_:PySem.W.findIn K (.ref C) m=some (some (.ref f))
 fn:PySem.W.isFn K (.ref f)=true
 kp:PySem.W.keepIn K (.ref f)=true
section
variable{X:Cx}{pins:List (Addr×Obj)}{σ:St}{H:Hp}{s:Shared}{a C dx:Addr}{fs:List (Str×V)}{f:Str}{v:V}{A:Around}{E:Value->Shared->Prop}
theorem jku{b:Bool}{Q:Value->Shared->Prop}(I:Inv X pins σ H s)(e:H a=some (.ins C dx fs))(c:Cls X.K C)(n:jdu X.K C f)(l:fs.lookup f=some v)
  (h:∀ u s',Inv X pins σ H s'->xm v u->Q u s'):wpAny (model X.prog X.w) A (getAttr (.ref a) f b) Q E s:=by
 obtain ⟨mA,O,r,_,_,_⟩:=jlr I.hok e;obtain ⟨u,hu,ru⟩:=vw.some_of (v:=v) (o:=mA f) (by rw [<- l];exact r f);exact j0u I.kIn O (c.get f) c.hd n hu (jvo ru) (h u _ (I.tok _) ru)
theorem jg6{m:Str}{g:Addr}{pl:Sem Bool}{Q:Value×List Value->Shared->Prop}(I:Inv X pins σ H s)(e:H a=some (.ins C dx fs))(c:Cls X.K C)(k:jlz X.K C m g)(l:fs.lookup m=none)
  (h:Q (.ref g,[.ref a]) s):wpAny (model X.prog X.w) A (getMethod (.ref a) m pl) Q E s:=by
 obtain ⟨mA,O,r,_,_,_⟩:=jlr I.hok e;have hn:mA m=none:=vw.none_of (by rw [<- l];exact r m)
 exact jx7 I.kIn O (c.get m) k.at_ k.fn hn h
theorem jj7{y:V}{u:Value}{Q:Unit->Shared->Prop}(I:Inv X pins σ H s)(e:H a=some (.ins C dx fs))(c:Cls X.K C)(n:jdu X.K C f)(hl:fs.length < 1000)(ry:xm y u)
  (h:∀ s',Inv X pins σ (upd H a (.ins C dx (jah f y fs))) s'->Q () s'):wpAny (model X.prog X.w) A (setAttr (.ref a) f u) Q E s:=by
 obtain ⟨mA,O,r,wi,_,ho⟩:=jlr I.hok e;have hz:(fs.map (·.1)).length<=sizeLine:=by rw [List.length_map,sizeLine_eq];omega
 refine jzk I.kIn O c.sa c.po n.taker c.hd wi hz λh' O' sb=>h _ ?_;have hd:∃ o,h'.get? dx=some o:=let ⟨o,_,_,e',_⟩:=O'.ns;⟨o,e'⟩
 refine I.write (x:=a) (e:=dx) (by rw [e];exact True.intro) (.inr ho) (λb q hb z=>(sb.2 b hb).trans z) hd ?_;refine ⟨by rw [jm O.ne];exact ho,?_,O.ne,O'.obj,_,O'.ns,λg=>?_,λg hg=>?_⟩
 ·have:=ji1 f y fs;omega
 ·show vw ((jah f y fs).lookup g) (if g=f then some u else mA g);rw [jfo];by_cases q:g=f
  ·rw [if_pos q,if_pos q];exact ry
  ·rw [if_neg q,if_neg q];exact r g
 ·by_cases q:g=f
  ·rw [q];exact (jdq f y fs).1
  ·refine (jdq f y fs).2 g (wi g λz=>hg ?_);show (if g=f then some u else mA g)=none
   rw [if_neg q];exact z
theorem Inv.made(I:Inv X pins σ H s):Inv X pins σ (upd (upd H s.heap.objs.size (.own (s.heap.objs.size + 1))) (s.heap.objs.size + 1) (.ins C s.heap.objs.size []))
  { s with heap:=(s.heap.push PySem.W.emptyDict).push (PySem.W.instObj C s.heap.objs.size) }:=by
 have e1:(s.heap.push PySem.W.emptyDict).get? s.heap.objs.size=some PySem.W.emptyDict:=Heap.get?_push_size s.heap rfl;have e2:((s.heap.push PySem.W.emptyDict).push (PySem.W.instObj C s.heap.objs.size)).get? (s.heap.objs.size + 1)=some (PySem.W.instObj C s.heap.objs.size):=by
  have:=Heap.get?_push_size (s.heap.push PySem.W.emptyDict) (o:=PySem.W.instObj C s.heap.objs.size) rfl
  rwa [Heap.size_push] at this
 have e3:(s.heap.push PySem.W.emptyDict).Ns s.heap.objs.size (λ_=>none):=⟨PySem.W.emptyDict,#[],_,e1,rfl,(λe he=>absurd he (by simp)),λ_=>rfl⟩
 have I1:=I.laid (a:=s.heap.objs.size) (o:=.own (s.heap.objs.size + 1)) (h':=s.heap.push PySem.W.emptyDict) (t':=s.toks) (λb u q=>Heap.get?_push_of_some _ q) (Nat.le_refl _) ⟨_,e1⟩;refine I1.laid (a:=s.heap.objs.size + 1) (o:=.ins C s.heap.objs.size []) (t':=s.toks) (λb u q=>Heap.get?_push_of_some _ q) (Nat.le_of_eq (Heap.size_push _ _)) ?_;have ne:s.heap.objs.size≠s.heap.objs.size + 1:=Nat.ne_of_lt (Nat.lt_succ_self _)
 refine ⟨by rw [jm ne,jd],Nat.zero_le _,ne,e2,λ_=>none,(Heap.Ns1.of_empty e3).at λo q=>Heap.get?_push_of_some _ q,λ_=>True.intro,λy hy=>absurd rfl hy⟩
theorem j06{prog:Program}{w:World}{env:Env}{e:Expr}{f:Str}{pos:Pos}{s:Shared}{Q:Value->Shared->Prop}(hb:attributeBase e f env (eval e env)=eval e env)
  (h:wpAny (model prog w) A (eval e env) (λo s₁=>wpAny (model prog w) A (getAttr o f true) Q E s₁) E s):wpAny (model prog w) A (eval (.Attribute e f pos) env) Q E s :=
 Attribute_any_ h (by rw [arm_eval_Attribute,hb])
end
def ja4(K:W.Frag)(ta:TE)(f:Str):TE:=λσ H Q=>ta σ H λx H1=>∃ a C dx fs v,x = .ref a/\H1 a=some (.ins C dx fs)/\Cls K C/\jdu K C f/\fs.lookup f=some v/\Q v H1
def j4p(K:W.Frag)(ta tv:TE)(f:Str):TS:=λD σ H=>tv σ H λy H1=>ta σ H1 λx H2=>∃ a C dx fs,x = .ref a/\H2 a=some (.ins C dx fs)/\Cls K C/\jdu K C f/\fs.length < 1000/\
 D.nx σ (upd H2 a (.ins C dx (jah f y fs)))
def j3b(X:Cx)(op:Operator)(rd:V->V->Hp->VK->Prop):Prop :=
 ∀ (pins:List (Addr×Obj)) (s:Shared) (σ:St) (H:Hp) (x y:V) (u v:Value) (Q:VK),Inv X pins σ H s->xm x u->xm y v->rd x y H Q->wpAny (model X.prog X.w) X.A (inplaceOp op u v) (EP X pins σ Q) X.xe s
def jzr(K:W.Frag)(ta tv:TE)(rd:V->V->Hp->VK->Prop)(f:Str):TS:=λD σ H=>ta σ H λx H1=>∃ a C dx fs v,x = .ref a/\H1 a=some (.ins C dx fs)/\Cls K C/\jdu K C f/\fs.lookup f=some v/\
 tv σ H1 λy H2=>rd v y H2 λz H3=>∃ dx' fs',H3 a=some (.ins C dx' fs')/\fs'.length < 1000/\D.nx σ (upd H3 a (.ins C dx' (jah f z fs')))
section
variable{X:Cx}{o e value:Expr}{f:Str}{pos pos' tpos:Pos}{ta tv:TE}
theorem qc(he:PE X e ta)(hb:attributeBase e f X.env (eval e X.env)=eval e X.env):PE X (.Attribute e f pos) (ja4 X.K ta f):=by
 intro pins s σ H Q I h;refine j06 hb (thn (he pins s σ H _ I h) λu s1 ⟨x,H1,I1,rx,a,C,dx,fs,v,ex,ea,c,n,l,q⟩=>?_);subst ex;obtain rfl:u=Value.ref a:=rx;exact jku I1 ea c n l λu' s2 I2 ru=>⟨v,H1,I2,ru,q⟩
theorem v_(ha:PE X o ta)(hv:PE X value tv)(hs:swapsWith value (some (.Attribute o f pos')) pos.line X.env=pure false):PS X (.Assign [.Attribute o f pos'] value pos) (j4p X.K ta tv f):=by
 intro pins s σ H D I h;refine plainObj_wpAny_Assign_Attribute (thn (hv pins s σ H _ I h) λu s1 ⟨y,H1,I1,ry,q⟩=>thn (ha pins s1 σ H1 _ I1 q) λov s2 ⟨x,H2,I2,rx,a,C,dx,fs,ex,ea,c,n,l,q2⟩=>?_) hs;subst ex;obtain rfl:ov=Value.ref a:=rx;exact jj7 I2 ea c n l ry λs3 I3=>⟨σ,_,I3,q2⟩
theorem jmf{op:Operator}{rd:V->V->Hp->VK->Prop}(ha:PE X o ta)(hv:PE X value tv)(hop:j3b X op rd):PS X (.AugAssign (.Attribute o f tpos) op value pos) (jzr X.K ta tv rd f):=by
 intro pins s σ H D I h;refine wpAny_AugAssign_AttributeAny (thn (ha pins s σ H _ I h) λov s1 ⟨x,H1,I1,rx,a,C,dx,fs,v,ex,ea,c,n,l,q⟩=>?_);subst ex;obtain rfl:ov=Value.ref a:=rx;refine jku I1 ea c n l λu s2 I2 ru=>thn (hv pins s2 σ H1 _ I2 q) λw3 s3 ⟨y,H2,I3,ry,q3⟩=>thn (hop pins s3 σ H2 v y u w3 _ I3 ru ry q3) λw4 s4 ⟨z,H3,I4,rz,dx',fs',ea',l',q4⟩=>?_;exact jj7 I4 ea' c n l' rz λs5 I5=>⟨σ,_,I5,q4⟩
def j4v:V->V->Hp->VK->Prop:=λx y H Q=>∃ i j,x = .int i/\y = .int j/\Q (.int (i + j)) H
theorem jvl:j3b X .Add j4v:=by
 rintro pins s σ H x y u v Q I rx ry ⟨i,j,rfl,rfl,q⟩;obtain ⟨t,rfl⟩:=(show ∃ t,u=Value.int i t from rx)
 obtain ⟨t',rfl⟩:=(show ∃ t',v=Value.int j t' from ry)
 exact PyProof.Rows.iadd_int ⟨.int (i + j),H,I.tok _,⟨_,rfl⟩,q⟩
theorem j3e{pl:Sem Bool}{m:Str}{apos:Pos}{args:List Expr}{pins:List (Addr×Obj)}{s:Shared}{σ:St}{H:Hp}{Q:Value->Shared->Prop}{te:TE}(he:PE X e te)(I:Inv X pins σ H s)
  (h:te σ H λx H1=>∃ a C dx fs g,x = .ref a/\H1 a=some (.ins C dx fs)/\Cls X.K C/\jlz X.K C m g/\fs.lookup m=none/\
   ∀ s1,Inv X pins σ H1 s1->wpAny (model X.prog X.w) X.A (callWith pos (.ref g) [.ref a] (backTo pos (starEach args X.env)) (backToKw pos (keywordEach [] X.env))) Q X.xe s1)
  (ht:eval (.Call (.Attribute e m apos) args [] pos) X.env=(do
   let ov <- eval e X.env
   standAt apos.atName
   let (f,first) <- holding [ov] (getMethod ov m pl)
   callWith pos f first (backTo pos (starEach args X.env)) (backToKw pos (keywordEach [] X.env)))) :
  wpAny (model X.prog X.w) X.A (eval (.Call (.Attribute e m apos) args [] pos) X.env) Q X.xe s:=by
 refine PySem.W.methodCall_KW (pl:=pl) (thn (he pins s σ H _ I h) λu s1 ⟨x,H1,I1,rx,a,C,dx,fs,g,ex,ea,c,k,l,q⟩=>?_) ht;subst ex;obtain rfl:u=Value.ref a:=rx;exact jg6 I1 ea c k l (q s1 I1)
end
structure xw(k:Nat)(A:Around):Prop where
 hd:A.handled=none
 dp:A.depth + k + 5 < recursionLimit
 un:A.units + 16 * k + 200 < cLine
theorem xw.mono{j k:Nat}{A:Around}(r:xw k A)(h:j<=k):xw j A:=⟨r.hd,by have:=r.dp;omega,by have:=r.un;omega⟩
theorem xw.deeper{k:Nat}{A:Around}(r:xw (k + 1) A)(env:Env):xw k (A.deeper env) :=
 ⟨r.hd,by have:=r.dp;show A.depth + 1 + k + 5 < _;omega,by have:=r.un;show A.units + 3 + 16 * k + 200 < _;omega⟩
theorem jsp{A:Around}{C:Addr}{us:List Value}{kw:List (Str×Value)}:(A.under (.builtin "type.__call__" ⟨.ref C::us,kw⟩)).depth=A.depth + 1:=by
 first | rfl | simp [Around.under,Code.weight,Code.isCreation,Code.isGuard,Code.isCaller,Code.frames,Code.isFrame,guardIds]
theorem jso{A:Around}{C:Addr}{us:List Value}{kw:List (Str×Value)}:(A.under (.builtin "type.__call__" ⟨.ref C::us,kw⟩)).units=A.units + 1:=by
 first | rfl | simp [Around.under,Code.cUnits,Code.frames,Code.isFrame]
theorem xw.make{k:Nat}{A:Around}(r:xw (k + 1) A)(C:Addr)(us:List Value)(kw:List (Str×Value)):xw k (A.under (.builtin "type.__call__" ⟨.ref C::us,kw⟩)) :=
 ⟨r.hd,by have:=r.dp;rw [jsp];omega,by have:=r.un;rw [jso];omega⟩
theorem xw.depth{k:Nat}{A:Around}(r:xw k A):A.depth < recursionLimit:=by have:=r.dp;omega
theorem xw.units{k:Nat}{A:Around}(r:xw k A):A.units + 64 < cLine:=by have:=r.un;omega
def xh:TA:=λ_ H Q=>Q [] H
def qk(ta:TE)(tr:TA):TA:=λσ H Q=>ta σ H λx H1=>tr σ H1 λxs H2=>Q (x::xs) H2
section
variable{X:Cx}{e:Expr}{es:List Expr}{te:TE}{t:TA}{pos:Pos}
theorem jb:PA X [] xh:=λ_ _ _ _ H Q I h=>Calls.spliced_nil ⟨[],H,I,.nil,h⟩
theorem ja(ha:PE X e te)(hr:PA X es t)(hs:starEach (e::es) X.env=(false,eval e X.env)::starEach es X.env:=by rfl):PA X (e::es) (qk te t):=by
 intro pos pins s σ H Q I h;rw [hs];show wpAny _ _ (spliced ((false,eval e X.env)::backTo pos (starEach es X.env))) _ _ s
 refine Calls.spliced_cons (thn (ha pins s σ H _ I h) λu s1 ⟨x,H1,I1,r1,q1⟩=>?_);exact thn (hr pos pins s1 σ H1 _ I1 q1) λus s2 ⟨xs,H2,I2,r2,q2⟩=>⟨x::xs,H2,I2,.cons r1 r2,q2⟩
def jrk(t:TA):TE:=λσ H Q=>t σ H λxs H1=>xs.length<=sizeLine/\∀ p,H1 p=none->Q (.ref p) (upd H1 p (.tup xs))
def jhg(t:TA):TE:=λσ H Q=>t σ H λxs H1=>xs.length<=sizeLine/\∀ p,H1 p=none->Q (.ref p) (upd H1 p (.lst xs))
theorem jbw{x1}(h:PA X es t):PE X (.Tuple es x1 pos) (jrk t):=by
 intro pins s σ H Q I hq;refine wpAny_Tuple_spliced (thn (h pos pins s σ H _ I hq) λus s1 ⟨xs,H1,I1,r,z,q⟩=>⟨by rw [<- r.length];exact z,?_⟩);have hf:H1 s1.heap.objs.size=none:=I1.hok.fresh (Nat.le_refl _)
 refine ⟨.ref s1.heap.objs.size,upd H1 s1.heap.objs.size (.tup xs),I1.laid (t':=s1.toks) (λb u e=>Heap.get?_push_of_some _ e) (Nat.le_refl _) ?_,rfl,q _ hf⟩;exact ⟨z,us,r,⟨_,Heap.get?_push_size _ rfl,rfl,_,rfl⟩⟩
theorem j5(h:PA X es t):PE X (.List es pos) (jhg t):=by
 intro pins s σ H Q I hq;refine wpAny_List_spliced (thn (h pos pins s σ H _ I hq) λus s1 ⟨xs,H1,I1,r,z,q⟩=>⟨by rw [<- r.length];exact z,?_⟩);have hf:H1 s1.heap.objs.size=none:=I1.hok.fresh (Nat.le_refl _)
 refine ⟨.ref s1.heap.objs.size,upd H1 s1.heap.objs.size (.lst xs),I1.laid (t':=s1.toks) (λb u e=>Heap.get?_push_of_some _ e) (Nat.le_refl _) ?_,rfl,q _ hf⟩;exact ⟨z,us,0,r,Heap.get?_push_size _ rfl⟩
end
abbrev Sp:=List V->Hp->VK->XK->Prop
abbrev CXT:=List Env->Hp->Shared->XK->Value->Shared->Prop
structure jjx(P:Program)(w:World)(K:W.Frag)(mg:Str->Option Value)(base:Heap)(A:Around)(outer:List Env)(s:Shared)(H:Hp):Prop where
 frames:A.frames=some outer
 mod:Mod K mg base
 bs:∀ b o,base.get? b=some o->s.heap.get? b=some o/\H b=none
 bsz:base.objs.size<=s.heap.objs.size
 funs:s.heap.FunFrames base outer
 frf:∀ b∈frs outer,H b=none
 hok:HOk P w H s.heap
 bare:AllBare s.gens
def CE(outer:List Env)(P:Program)(w:World)(H:Hp)(s:Shared)(Q:VK)(u:Value)(s':Shared):Prop :=
 ∃ v H',s'.os=s.os/\AllBare s'.gens/\Un (frs outer) [] H H' s.heap s'.heap/\HOk P w H' s'.heap/\xm v u/\Q v H'
def CR(CX:CXT)(outer:List Env)(P:Program)(w:World)(H:Hp)(s:Shared)(Q:VK)(E:XK)(r:Result)(s':Shared):Prop :=
 match r with
 | .ok (.ret u)=>CE outer P w H s Q u s'
 | .ok _=>False
 | .error e=>CX outer H s E e s'
structure xb(P:Program)(w:World)(K:W.Frag)(mg:Str->Option Value)(base:Heap)(CX:CXT)(k:Nat)(f:Addr)(fd:FuncData)(ps:List Str)(sp:Sp):Prop where
 len:∀ vs H Q E,sp vs H Q E->vs.length=ps.length
 run:∀ (A:Around) (outer:List Env) (s:Shared) (H:Hp) (args:Args) (us:List Value) (vs:List V) (Q:VK) (E:XK),xw k A->jjx P w K mg base A outer s H->BindsTo s fd args (ps.zip us)->qw vs us->sp vs H Q E->
  codeAny (model P w) A (.call (.ref f) args) (CR CX outer P w H s Q E) s
theorem jjx.make{P:Program}{w:World}{K:W.Frag}{mg:Str->Option Value}{base:Heap}{A:Around}{outer:List Env}{s:Shared}{H:Hp}(e:jjx P w K mg base A outer s H)(C:Addr)(us:List Value)(kw:List (Str×Value)) :
  jjx P w K mg base (A.under (.builtin "type.__call__" ⟨.ref C::us,kw⟩)) outer s H:=⟨by first | exact e.frames | (simpa [Around.under,Code.envs,Code.isFrame,pushEnvs] using e.frames),e.mod,e.bs,e.bsz,e.funs,e.frf,e.hok,e.bare⟩
section
variable{X:Cx}{pins:List (Addr×Obj)}{σ:St}{H:Hp}{s s':Shared}
theorem Inv.env0(I:Inv X pins σ H s):jjx X.prog X.w X.K X.mg X.base X.A X.stack s H :=
 ⟨I.ok.frames,I.ok.mod,I.bs,Nat.le_trans I.ok.bsz I.sz,I.stack,I.stkFree,I.hok,I.bare⟩
theorem Inv.after{Q:VK}{u:Value}(I:Inv X pins σ H s)(h:CE X.stack X.prog X.w H s Q u s'):EP X pins σ Q u s':=by
 obtain ⟨v,H',os,bare,un,hok,r,q⟩:=h;obtain ⟨hh,g,d,t,os'⟩:=s';obtain rfl:os'=s.os:=os;exact ⟨v,H',I.call (h':=hh) (g':=g) (d':=d) (t':=t) (ch:=[]) un hok bare (λb z=>absurd z (by simp)),r,q⟩
end
def ym(sp:Sp)(dvs:List V)(E:XK)(t:TA):TE:=λσ H Q=>t σ H λvs H1=>sp (vs ++ dvs) H1 Q E
def vj(C:Addr)(m:Str)(sp:Sp)(dvs:List V)(E:XK)(ta:TE)(t:TA):TE:=λσ H Q=>ta σ H λx H1=>∃ a dx fs,x = .ref a/\H1 a=some (.ins C dx fs)/\fs.lookup m=none/\
 t σ H1 λvs H2=>sp (x::(vs ++ dvs)) H2 Q E
def jm7(C:Addr)(sp:Sp)(dvs:List V)(E:XK)(t:TA):TE:=λσ H Q=>t σ H λvs H1=>∀ x dx,H1 x=none->H1 dx=none->dx≠x->
 sp (.ref x::(vs ++ dvs)) (upd (upd H1 dx (.own x)) x (.ins C dx [])) (λv H2=>v = .non/\Q (.ref x) H2) E
def zl(K:W.Frag)(fd:FuncData)(ps:List Str)(ds:List Value):Prop :=
 ∀ (s:Shared) (us:List Value),K.In s.heap->(us ++ ds).length=ps.length->BindsTo s fd ⟨us,[]⟩ (ps.zip (us ++ ds))
theorem zl.all{K:W.Frag}{fd:FuncData}{ps:List Str}(h:∀ us:List Value,us.length=ps.length->bindArgs fd ⟨us,[]⟩=pure (ps.zip us)):zl K fd ps []:=λs us _ hl=>by
 rw [List.append_nil] at hl ⊢;exact .of_eq (h us hl)
def jav(CX:CXT)(X:Cx)(E:XK):Prop:=∀ (pins:List (Addr×Obj)) (σ:St) (H:Hp) (s:Shared) (e:Value) (s':Shared),Inv X pins σ H s->CX X.stack H s E e s'->X.xe e s'
section
variable{X:Cx}{CX:CXT}{k:Nat}{f C:Addr}{fd:FuncData}{ps:List Str}{sp:Sp}{dvs:List V}{ds:List Value}{E:XK}{x m:Str}{p pos apos:Pos}{e o:Expr}{es:List Expr}{ta:TE}{t:TA}
theorem jn7{pins:List (Addr×Obj)}{σ:St}{H:Hp}{s:Shared}{Q:VK}{us:List Value}{vs:List V}(F:xb X.prog X.w X.K X.mg X.base CX k f fd ps sp)(hr:xw k X.A)(hb:zl X.K fd ps ds)(hd:qw dvs ds)(hx:jav CX X E)
  (I:Inv X pins σ H s) (r:qw vs us) (h:sp (vs ++ dvs) H Q E):wpAny (model X.prog X.w) X.A (call (.ref f) us) (EP X pins σ Q) X.xe s:=by
 have r2:qw (vs ++ dvs) (us ++ ds):=r.append hd;have hl:(us ++ ds).length=ps.length:=by rw [<- r2.length];exact F.len _ _ _ _ h
 refine wpAny_call (codeAny_mono (F.run X.A X.stack s H ⟨us,[]⟩ (us ++ ds) (vs ++ dvs) Q E hr I.env0 (hb s us I.kIn hl) r2 h) λr s' hq=>?_);cases r with
 | error e=>exact hx pins σ H s e s' I hq
 | ok fl =>
  cases fl with
  | ret u=>exact I.after hq
  | next=>exact False.elim hq
  | brk=>exact False.elim hq
  | cont=>exact False.elim hq
theorem v7(F:xb X.prog X.w X.K X.mg X.base CX k f fd ps sp)(hr:xw k X.A)(hg:Gl X x)(hm:X.mg x=some (.ref f))(hk:PySem.W.keepIn X.K (.ref f)=true)(hb:zl X.K fd ps ds)(hd:qw dvs ds)(hx:jav CX X E)
  (ha:PA X (e::es) t) (hdb:(x == ("__debug__":Str))=false:=by decide) (he:starEach (e::es) X.env=(false,eval e X.env)::starEach es X.env:=by rfl) (hpl:(backTo pos (starEach es X.env)).any (·.1)=false:=by rfl) :
  PE X (.Call (.Name x p) (e::es) [] pos) (ym sp dvs E t):=by
 intro pins s σ H Q I h;refine wpAny_Call_Name_kw (jf5 I hg hm ?_ hdb);refine PySem.W.callWith_K (h₀:=X.base) I.ok.mod.kin hk (thn (ha pos pins s σ H _ I h) λus s1 ⟨vs,H1,I1,r,q⟩=>⟨I1.kIn,?_⟩) he hpl;exact jn7 F hr hb hd hx I1 r q
theorem jzy{pl:Sem Bool}(he:PE X o ta)(c:Cls X.K C)(hm:jlz X.K C m f)(F:xb X.prog X.w X.K X.mg X.base CX k f fd ps sp)(hr:xw k X.A)(hb:zl X.K fd ps ds)(hd:qw dvs ds)(hx:jav CX X E)(ha:PA X (e::es) t)
  (hst:starEach (e::es) X.env=(false,eval e X.env)::starEach es X.env:=by rfl) (hpl:(backTo pos (starEach es X.env)).any (·.1)=false:=by rfl)
  (ht:eval (.Call (.Attribute o m apos) (e::es) [] pos) X.env=(do
   let ov <- eval o X.env
   standAt apos.atName
   let (f,first) <- holding [ov] (getMethod ov m pl)
   callWith pos f first (backTo pos (starEach (e::es) X.env)) (backToKw pos (keywordEach [] X.env))):=by rfl) :
  PE X (.Call (.Attribute o m apos) (e::es) [] pos) (vj C m sp dvs E ta t):=by
 intro pins s σ H Q I h;refine PySem.W.methodCall_KW (pl:=pl) (thn (he pins s σ H _ I h) λu s1 ⟨x,H1,I1,rx,a,dx,fs,ex,ea,l,q⟩=>?_) ht;subst ex;obtain rfl:u=Value.ref a:=rx;refine jg6 I1 ea c hm l ?_;refine PySem.W.callWith_K (first:=[.ref a]) (h₀:=X.base) I.ok.mod.kin hm.kp (thn (ha pos pins s1 σ H1 _ I1 q) λus s2 ⟨vs,H2,I2,r,q2⟩=>⟨I2.kIn,?_⟩) hst hpl;exact jn7 (us:=.ref a::us) (vs:=.ref a::vs) F hr hb hd hx I2 (.cons rfl r) q2
theorem jw8{pl:Sem Bool}(he:PE X o ta)(c:Cls X.K C)(hm:jlz X.K C m f)(F:xb X.prog X.w X.K X.mg X.base CX k f fd ps sp)(hr:xw k X.A)(hb:zl X.K fd ps ds)(hd:qw dvs ds)(hx:jav CX X E)
  (ht:eval (.Call (.Attribute o m apos) [] [] pos) X.env=(do
   let ov <- eval o X.env
   standAt apos.atName
   let (f,first) <- holding [ov] (getMethod ov m pl)
   callWith pos f first (backTo pos (starEach [] X.env)) (backToKw pos (keywordEach [] X.env))):=by rfl) :
  PE X (.Call (.Attribute o m apos) [] [] pos) (vj C m sp dvs E ta xh):=by
 intro pins s σ H Q I h;refine PySem.W.methodCall_KW (pl:=pl) (thn (he pins s σ H _ I h) λu s1 ⟨x,H1,I1,rx,a,dx,fs,ex,ea,l,q⟩=>?_) ht;subst ex;obtain rfl:u=Value.ref a:=rx;refine jg6 I1 ea c hm l ?_;exact PySem.W.callWith_K0 (first:=[.ref a]) I1.kIn hm.kp (jn7 (us:=[.ref a]) (vs:=[.ref a]) F hr hb hd hx I1 (.cons rfl .nil) q)
structure Mk(K:W.Frag)(C f:Addr):Prop where
 makes:PySem.W.makesIn K C=true
 init:PySem.W.findIn K (.ref C) "__init__"=some (some (.ref f))
 fn:PySem.W.isFn K (.ref f)=true
 kp:PySem.W.keepIn K (.ref C)=true
theorem jwv{pins:List (Addr×Obj)}{σ:St}{H:Hp}{s:Shared}{Q:VK}{us:List Value}{vs:List V}(M:Mk X.K C f)(F:xb X.prog X.w X.K X.mg X.base CX k f fd ps sp)(hr:xw (k + 1) X.A)(hb:zl X.K fd ps ds)(hd:qw dvs ds)
  (hx:jav CX X E) (I:Inv X pins σ H s) (r:qw vs us)
  (h:∀ x dx,H x=none->H dx=none->dx≠x->sp (.ref x::(vs ++ dvs)) (upd (upd H dx (.own x)) x (.ins C dx [])) (λv H2=>v = .non/\Q (.ref x) H2) E) :
  wpAny (model X.prog X.w) X.A (call (.ref C) us) (EP X pins σ Q) X.xe s:=by
 have hq:=h (s.heap.objs.size + 1) s.heap.objs.size (I.hok.fresh (Nat.le_succ _)) (I.hok.fresh (Nat.le_refl _)) (Nat.ne_of_lt (Nat.lt_succ_self _));have I2:=Inv.made (C:=C) I
 have r2:qw (V.ref (s.heap.objs.size + 1)::(vs ++ dvs)) (Value.ref (s.heap.objs.size + 1)::(us ++ ds)):=.cons rfl (r.append hd);have hl:(Value.ref (s.heap.objs.size + 1)::us ++ ds).length=ps.length:=by
  have e:=r2.length;rw [F.len _ _ _ _ hq] at e;exact e.symm
 refine wpAny_call (jxy (f:=f) I.kIn M.makes M.init (beq_iff_eq.mp M.fn) (codeAny_mono (F.run _ X.stack _ _ ⟨Value.ref (s.heap.objs.size + 1)::us,[]⟩ (Value.ref (s.heap.objs.size + 1)::(us ++ ds)) _ _ E (hr.make C us [])
  (I2.env0.make C us []) (hb _ (Value.ref (s.heap.objs.size + 1)::us) I2.kIn hl) r2 hq) λr s' hq'=>?_))
 cases r with
 | error e=>exact hx pins σ _ _ e s' I2 hq'
 | ok fl =>
  cases fl with
  | ret u =>
   obtain ⟨v,H',I3,rv,ev,q3⟩:=I2.after hq';subst ev;exact ⟨rv,⟨V.ref (s.heap.objs.size + 1),H',I3,rfl,q3⟩⟩
  | next=>exact False.elim hq'
  | brk=>exact False.elim hq'
  | cont=>exact False.elim hq'
theorem jbq(M:Mk X.K C f)(F:xb X.prog X.w X.K X.mg X.base CX k f fd ps sp)(hr:xw (k + 1) X.A)(hg:Gl X x)(hm:X.mg x=some (.ref C))(hb:zl X.K fd ps ds)(hd:qw dvs ds)(hx:jav CX X E)
  (ha:PA X (e::es) t) (hdb:(x == ("__debug__":Str))=false:=by decide) (he:starEach (e::es) X.env=(false,eval e X.env)::starEach es X.env:=by rfl) (hpl:(backTo pos (starEach es X.env)).any (·.1)=false:=by rfl) :
  PE X (.Call (.Name x p) (e::es) [] pos) (jm7 C sp dvs E t):=by
 intro pins s σ H Q I h;refine wpAny_Call_Name_kw (jf5 I hg hm ?_ hdb);refine PySem.W.callWith_K (h₀:=X.base) I.ok.mod.kin M.kp (thn (ha pos pins s σ H _ I h) λus s1 ⟨vs,H1,I1,r,q⟩=>⟨I1.kIn,?_⟩) he hpl;exact jwv M F hr hb hd hx I1 r q
end
structure jv(N P:List Str)(sc:Scope):Prop where
 kind:sc.kind = .function
 co:sc.isCoroutine=false
 gen:sc.isGenerator=false
 nd:N.Nodup
 pre:N.take P.length=P
 par:∀ x∈P,sc.names.lookup x=some .local\/sc.names.lookup x=some .cell
 nofree:∀ y∈sc.names,y.2≠.free
theorem fs_{N P:List Str}{sc:Scope}(a:sc.kind=.function:=by rfl)(b:sc.isCoroutine=false:=by rfl)(c:sc.isGenerator=false:=by rfl)(d:N.Nodup:=by decide +kernel)(e:N.take P.length=P:=by rfl)(f:∀ x∈P,sc.names.lookup x=some .local\/sc.names.lookup x=some .cell:=by decide +kernel)(g:∀ y∈sc.names,y.2≠.free:=by decide +kernel):jv N P sc:=⟨a,b,c,d,e,f,g⟩
theorem jmu{kindOf:Str->Option NameKind}{x:Str}:∀ {binds:List (Str×Value)} {m:Str->Option Value},(∀ v,(x,v)∉binds)->bindL kindOf binds m x=m x
 | [],_,_=>rfl
 | (n,v)::r,m,h=>by
  unfold bindL;rw [jmu λw hw=>h w (List.mem_cons_of_mem _ hw)];split
  ·have:x≠n:=by rintro rfl;exact h v List.mem_cons_self
   simp [this]
  ·rfl
theorem jmw{kindOf:Str->Option NameKind}{x:Str}:∀ {binds:List (Str×Value)} {m:Str->Option Value},(∀ v,(x,v)∉binds)->bindC kindOf binds m x=m x
 | [],_,_=>rfl
 | (n,v)::r,m,h=>by
  unfold bindC;rw [jmw λw hw=>h w (List.mem_cons_of_mem _ hw)];split
  ·rfl
  ·have:x≠n:=by rintro rfl;exact h v List.mem_cons_self
   simp [this]
theorem jmv{kindOf:Str->Option NameKind}{x:Str}{v:Value}:∀ {P:List Str} {vs:List Value} {i:Nat} {m:Str->Option Value},P.Nodup->P[i]? = some x->vs[i]? = some v->kindOf x=some .local->
  bindL kindOf (P.zip vs) m x=some v
 | [],_,_,_,_,h,_,_=>by simp at h
 | _::_,[],_,_,_,_,h,_=>by simp at h
 | p::P,w::vs,0,m,nd,h1,h2,hk=>by
  simp at h1 h2;subst h1;subst h2;show bindL kindOf ((p,w)::P.zip vs) m p=_
  unfold bindL;rw [jmu λv hv=>(List.nodup_cons.mp nd).1 (List.of_mem_zip hv).1,if_pos hk];simp
 | p::P,w::vs,i + 1,m,nd,h1,h2,hk=>by
  show bindL kindOf ((p,w)::P.zip vs) m x=_;unfold bindL;exact jmv (i:=i) (List.nodup_cons.mp nd).2 (by simpa using h1) (by simpa using h2) hk
theorem jmx{kindOf:Str->Option NameKind}{x:Str}{v:Value}:∀ {P:List Str} {vs:List Value} {i:Nat} {m:Str->Option Value},P.Nodup->P[i]? = some x->vs[i]? = some v->kindOf x≠some .local->
  bindC kindOf (P.zip vs) m x=some v
 | [],_,_,_,_,h,_,_=>by simp at h
 | _::_,[],_,_,_,_,h,_=>by simp at h
 | p::P,w::vs,0,m,nd,h1,h2,hk=>by
  simp at h1 h2;subst h1;subst h2;show bindC kindOf ((p,w)::P.zip vs) m p=_
  unfold bindC;rw [jmw λv hv=>(List.nodup_cons.mp nd).1 (List.of_mem_zip hv).1,if_neg hk];simp
 | p::P,w::vs,i + 1,m,nd,h1,h2,hk=>by
  show bindC kindOf ((p,w)::P.zip vs) m x=_;unfold bindC;exact jmx (i:=i) (List.nodup_cons.mp nd).2 (by simpa using h1) (by simpa using h2) hk
def jc9(N:List Str)(vs:List V):St:=vs.map some ++ List.replicate (N.length - vs.length) none
def xt(CX:CXT)(P:Program)(w:World)(K:W.Frag)(mg:Str->Option Value)(base:Heap)(N:List Str)(qual:Str)(scope:Scope)(f:Addr)(cd:Value)(A:Around)(outer:List Env)(s:Shared)(H:Hp)(E:XK):Cx where
 prog:=P
 w:=w
 K:=K
 mg:=mg
 base:=base
 A:=A.deeper (envOfC qual scope s.heap.objs.size f cd)
 N:=N
 s_0:=s
 H_0:=H
 env:=envOfC qual scope s.heap.objs.size f cd
 outer:=outer
 stack:=envOfC qual scope s.heap.objs.size f cd::outer
 ex:=[]
 calm:=true
 fn:=λ_=>true
 pn:=[]
 xe:=λe s'=>wpAny (model P w) (A.deeper (envOfC qual scope s.heap.objs.size f cd)) (leaving (envOfC qual scope s.heap.objs.size f cd) e) (λ_ s''=>CX outer H s E e s'') (λe' s''=>CX outer H s E e' s'') s'
theorem jo7{sc:Scope}{n:Nat}{x:Str}(h:sc.names.lookup x=some .cell):∃ c,(cellsFrom n sc.names []).lookup x=some c:=by
 have q:=PySem.W.cellsFrom_some sc.names n [] (.inl h);exact Option.isSome_iff_exists.mp q
theorem jvk{CX:CXT}{P:Program}{w:World}{K:W.Frag}{mg:Str->Option Value}{base:Heap}{N ps:List Str}{qual:Str}{scope:Scope}{f:Addr}{cd:Value}{A:Around}{outer:List Env}{s s1:Shared}{H:Hp}{E:XK}{us:List Value}{vs:List V}
  (S:jv N ps scope) (hd:A.handled=none) (e0:jjx P w K mg base A outer s H) (hl:vs.length=ps.length) (r:qw vs us)
  (x:InCallC s s.heap.objs.size (bindL (envOfC qual scope s.heap.objs.size f cd).kindOf (ps.zip us) λ_=>none) (cellsFrom (s.heap.objs.size + 1) scope.names []) (bindC (envOfC qual scope s.heap.objs.size f cd).kindOf (ps.zip us) λ_=>none) s1) :
  Inv (xt CX P w K mg base N qual scope f cd A outer s H E) [] (jc9 N vs) H s1:=by
 have hpl:ps.length<=N.length:=by have:=congrArg List.length S.pre;rw [List.length_take] at this;omega
 obtain ⟨h1,tk,rfl,hk⟩:=x.done;have noA:∀ b:Addr,b∉(xt CX P w K mg base N qual scope f cd A outer s H E).ex:=λb z=>absurd (show b∈([]:List Addr) from z) (by simp)
 refine ⟨⟨e0.mod,S.kind,rfl,rfl,Nat.le_refl _,λy z c h1 h2=>?_,λy hy=>?_,λy c _ h=>?_,λ_=>hd,Around.frames_deeper e0.frames,.inr ⟨rfl,rfl⟩,λb z=>absurd z (noA b),e0.bs,e0.bsz,λb _ _=>noA b,λb z=>absurd z (noA b),e0.funs,e0.frf⟩,
  rfl,e0.bare,Un.kept hk,⟨_,x.toInCall.ns,λi y v h1 h2 h3=>?_⟩,λy c h=>⟨_,x.cell y c h⟩,e0.hok.fresh (Nat.le_refl _),λy c h=>?_,λp hp=>absurd (show p∈([]:List (Addr×Obj)) from hp) (by simp),e0.hok.kept hk,?_⟩
 ·exact name_of_addr x.apart (PySem.mem_of_lookup h1) (PySem.mem_of_lookup h2)
 ·have hy:scope.names.lookup y=some .cell\/scope.names.lookup y=some .free:=hy;rcases hy with hy | hy
  ·exact jo7 hy
  ·exact absurd rfl (S.nofree _ (PySem.mem_of_lookup hy))
 ·exact Nat.le_of_lt (x.above y c (PySem.mem_of_lookup h))
 ·have hi:i < vs.length:=by
   unfold jc9 at h2;by_cases hi:i < vs.length
   ·exact hi
   ·rw [List.getElem?_append_right (by simpa using hi)] at h2;rw [List.getElem?_replicate] at h2;split at h2 <;> cases h2
  have ha:vs[i]? = some v:=by
   unfold jc9 at h2;rw [List.getElem?_append_left (by simpa using hi),List.getElem?_map] at h2;cases e:vs[i]? with
   | none=>rw [e] at h2;cases h2
   | some a=>rw [e] at h2;cases h2;rfl
  obtain ⟨u,hu,rv⟩:=r.get ha;have hp:ps[i]? = some y:=by
   rw [<- S.pre,List.getElem?_take_of_lt (by omega)];exact h1
  have ndP:ps.Nodup:=by rw [<- S.pre];exact S.nd.sublist (List.take_sublist _ _)
  refine ⟨u,rv,?_⟩;rcases S.par y (List.mem_of_getElem? hp) with k | k
  ·exact .inl ⟨k,jmv ndP hp hu k⟩
  ·obtain ⟨c,e⟩:=jo7 (n:=s.heap.objs.size + 1) k;refine .inr ⟨.inl k,c,e,?_⟩;have q:=x.cell y c e
   rw [jmx ndP hp hu (by show scope.names.lookup y≠_;rw [k];decide)] at q;exact q
 ·exact e0.hok.fresh (Nat.le_of_lt (x.above y c (PySem.mem_of_lookup h)))
 ·unfold jc9;show _=N.length
  rw [List.length_append,List.length_map,List.length_replicate];omega
theorem j36{CX:CXT}{P:Program}{w:World}{K:W.Frag}{mg:Str->Option Value}{base:Heap}{k:Nat}{f:Addr}{name qual:Str}{params:Arguments}{body:List Stmt}{scope:Scope}{dV kV doc pm ac ct oc:Value}{an od:Option Addr}
  {osl:Array (Option Value)} {N ps:List Str} {sp:Sp} (lk:K.lookup f=some ⟨oc,od,.func (PySem.W.fnOf name qual params body scope dV kV doc pm an ac ct),osl⟩) (hcd:PySem.W.codeIn K ac qual=true) (S:jv N ps scope)
  (len:∀ vs H Q E,sp vs H Q E->vs.length=ps.length)
  (hbody:∀ (A:Around) (outer:List Env) (s:Shared) (H:Hp) (vs:List V) (Q:VK) (E:XK),xw k (A.deeper (envOfC qual scope s.heap.objs.size f ac))->sp vs H Q E->
   ∃ t,PSs (xt CX P w K mg base N qual scope f ac A outer s H E) body t/\t { nx:=λ_ H'=>Q .non H',rt:=Q } (jc9 N vs) H) :
  xb P w K mg base CX (k + 1) f (PySem.W.fnOf name qual params body scope dV kV doc pm an ac ct) ps sp:=by
 refine ⟨len,λA outer s H args us vs Q E hr e0 hb r hsp=>?_⟩;have hl:=len _ _ _ _ hsp
 have KX:K.In s.heap:=e0.mod.kin.keeps λb o e=>(e0.bs b o e).1;have lim:s.heap.NoLimit:=e0.mod.nolimit.keeps λb o e=>(e0.bs b o e).1
 have hkind:∀ y∈ps.zip us,scope.names.lookup y.1=some .local\/(scope.names.lookup y.1=some .cell/\((cellsFrom (s.heap.objs.size + 1) scope.names []).lookup y.1).isSome=true):=λ⟨n,v⟩ hy=>by
  rcases S.par n (List.of_mem_zip hy).1 with q | q
  ·exact .inl q
  ·exact .inr ⟨q,PySem.W.cellsFrom_some _ _ _ (.inl q)⟩
 refine codeAny_call_function hr.depth (KX _ _ lk) rfl S.co S.gen rfl (PySem.W.codeRec_of KX hcd) (hb _ _ _ _ ?_);refine wpAny_newFunctionEnv_cells S.kind hkind λenv he s1 x=>?_;subst he;refine ⟨lim.keeps x.toInCall.keep,codeAny_func ?_⟩;obtain ⟨t,ht,hq⟩:=hbody A outer s H vs Q E (hr.deeper _) hsp;have I:Inv (xt CX P w K mg base N qual scope f ac A outer s H E) [] (jc9 N vs) H s1:=jvk S hr.hd e0 hl r x
 refine wpAny_mono (ht [] s1 (jc9 N vs) H _ I hq) (λfl s' hs=>?_) λe s' hs=>hs;have fin:∀ {σ':St} {H':Hp} {v:V} {u:Value},Inv (xt CX P w K mg base N qual scope f ac A outer s H E) [] σ' H' s'->xm v u->Q v H'->CE outer P w H s Q u s' :=
  λ{σ' H' v u} J rv q=>⟨v,H',J.os,J.bare,J.base,J.hok,rv,q⟩
 cases fl with
 | ret u =>
  obtain ⟨v,σ',H',J,rv,q⟩:=hs;exact fin J rv q
 | next =>
  obtain ⟨σ',H',J,q⟩:=hs;exact fin (v:=V.non) (u:=Value.none) J rfl q
 | brk =>
  obtain ⟨_,_,_,q⟩:=hs;exact False.elim q
 | cont =>
  obtain ⟨_,_,_,q⟩:=hs;exact False.elim q
section
variable{X:Cx}{x:Str}{p pos:Pos}{e:Expr}{es:List Expr}{t:TA}{id T:String}{r:List V->Hp->VK->Prop}
def tCB(r:List V->Hp->VK->Prop)(t:TA):TE:=λσ H Q=>t σ H λvs H1=>r vs H1 Q
theorem ye(hc:jei X (.builtin id) r)(hg:Gl X x)(hm:X.mg x=none)(hv:bootBuiltins x=some (.builtin id))(ha:PA X (e::es) t)(hn:x≠"__name__":=by decide)(hdb:(x == ("__debug__":Str))=false:=by decide)
  (he:starEach (e::es) X.env=(false,eval e X.env)::starEach es X.env:=by rfl) (hpl:(backTo pos (starEach es X.env)).any (·.1)=false:=by rfl):PE X (.Call (.Name x p) (e::es) [] pos) (tCB r t):=by
 intro pins s σ H Q I h;refine wpAny_Call_Name_kw (jh2 I hg hm hv ?_ hn hdb);exact PyProof.Rows.callWith_builtin1 (thn (ha pos pins s σ H _ I h) λus s1 ⟨vs,H1,I1,r1,q1⟩=>hc pins s1 σ H1 vs us Q I1 r1 q1) he hpl
theorem je_(hc:jei X (.type T) r)(hg:Gl X x)(hm:X.mg x=none)(hv:bootBuiltins x=some (.type T))(ha:PA X (e::es) t)(hn:x≠"__name__":=by decide)(hdb:(x == ("__debug__":Str))=false:=by decide)
  (he:starEach (e::es) X.env=(false,eval e X.env)::starEach es X.env:=by rfl) (hpl:(backTo pos (starEach es X.env)).any (·.1)=false:=by rfl):PE X (.Call (.Name x p) (e::es) [] pos) (tCB r t):=by
 intro pins s σ H Q I h;refine wpAny_Call_Name_kw (jh2 I hg hm hv ?_ hn hdb);exact PyProof.Rows.callWith_type1 (thn (ha pos pins s σ H _ I h) λus s1 ⟨vs,H1,I1,r1,q1⟩=>hc pins s1 σ H1 vs us Q I1 r1 q1) he hpl
end
end L2
namespace HT
open PySem PyProof.Rows
section
variable{prog:Program}{w:World}{A:Around}{E:Value->Shared->Prop}{s:Shared}
def sIx(n d:Nat):Option Int->Nat
 | none=>d
 | some v=>if v < 0 then (v + (n:Int)).toNat else min v.toNat n
theorem jwu(n d:Nat):sIx n d none=d:=rfl
theorem jf1(n d k:Nat):sIx n d (some (k:Int))=min k n:=by
 show (if (k:Int) < 0 then ((k:Int) + (n:Int)).toNat else min (k:Int).toNat n)=min k n;rw [if_neg (by omega),Int.toNat_natCast]
end
end HT
namespace L2
open PySem PySem.Spec PyProof.Rows
abbrev TO:=St->Hp->(Option Int->Hp->Prop)->Prop
def PO(X:Cx)(e:Option Expr)(t:TO):Prop :=
 ∀ (pins:List (Addr×Obj)) (s:Shared) (σ:St) (H:Hp) (Q:Option Int->Hp->Prop),Inv X pins σ H s->t σ H Q->
  wpAny (model X.prog X.w) X.A (evalPart e X.env) (λu s'=>∃ o H',Inv X pins σ H' s'/\IsPart u o/\Q o H') X.xe s
def jqa:TO:=λ_ H Q=>Q none H
def jyt(t:TE):TO:=λσ H Q=>t σ H λx H1=>∃ i,x = .int i/\Q (some i) H1
section
variable{X:Cx}{e:Expr}{te:TE}{lo hi:Option Expr}{tl th:TO}{pos p2:Pos}
theorem jil:PO X none jqa:=by
 intro pins s σ H Q I h;rw [evalPart_none];exact wpAny_pure ⟨none,H,I,.none,h⟩
theorem jca(h:PE X e te):PO X (some e) (jyt te):=by
 intro pins s σ H Q I hw;rw [evalPart_some];refine thn (h pins s σ H _ I hw) λu s1 ⟨x,H1,I1,r1,q1⟩=>?_;obtain ⟨i,rfl,q⟩:=q1;obtain ⟨t,rfl⟩:=r1;exact ⟨some i,H1,I1,.int i t,q⟩
def SlR(X:Cx)(r:V->Option Int->Option Int->Hp->VK->Prop):Prop :=
 ∀ (pins:List (Addr×Obj)) (s:Shared) (σ:St) (H:Hp) (x:V) (v vl vu:Value) (lo hi:Option Int) (sl:Addr) (Q:VK),Inv X pins σ H s->xm x v->s.heap.IsSliceOf sl vl vu .none->IsPart vl lo->IsPart vu hi->r x lo hi H Q->
  ∃ T id,typeLookup (.type T) "__getitem__"=pure (some (.builtin id))/\s.TypeIs v T/\wpAny (model X.prog X.w) X.A (getItem v (.ref sl)) (EP X pins σ Q) X.xe s
def tSl(r:V->Option Int->Option Int->Hp->VK->Prop)(te:TE)(tl th:TO):TE:=λσ H Q=>te σ H λx H1=>tl σ H1 λl H2=>th σ H2 λu H3=>r x l u H3 Q
theorem jc0{r:V->Option Int->Option Int->Hp->VK->Prop}(hr:SlR X r)(he:PE X e te)(hl:PO X lo tl)(hu:PO X hi th):PE X (.Subscript e (.Slice lo hi none p2) pos) (tSl r te tl th):=by
 intro pins s σ H Q I h;refine Subscript_ (thn (he pins s σ H _ I h) λv s1 ⟨x,H1,I1,r1,q1⟩=>?_);refine wpAny_Slice (thn (hl pins s1 σ H1 _ I1 q1) λvl s2 ⟨l,H2,I2,pl,q2⟩=>thn (hu pins s2 σ H2 _ I2 q2) λvu s3 ⟨u,H3,I3,pu,q3⟩=>?_);rw [evalPart_none];refine wpAny_pure ?_;have I4:Inv X pins σ H3 { s3 with heap:=s3.heap.push { cls:=.type "slice",data:=.fields #[vl,vu,.none] } }:=I3.kept (t':=s3.toks) λb ob q=>Heap.get?_push_of_some _ q
 obtain ⟨T,id,hT,ht,hg⟩:=hr pins { s3 with heap:=s3.heap.push { cls:=.type "slice",data:=.fields #[vl,vu,.none] } } σ H3 x v vl vu l u s3.heap.objs.size Q I4 r1 (Heap.IsSliceOf.new ..) pl pu q3;show wpAny (model X.prog X.w) X.A (subscriptTail e (.Slice lo hi none p2) v (.ref s3.heap.objs.size)) (EP X pins σ Q) X.xe { s3 with heap:=s3.heap.push { cls:=.type "slice",data:=.fields #[vl,vu,.none] } }
 exact tail_any (ops:=[.ref s3.heap.objs.size,v]) ht hT hg (by with_unfolding_all rfl)
def jfp(xs:List V)(lo hi:Option Int):List V:=(xs.drop (HT.sIx xs.length 0 lo)).take (HT.sIx xs.length xs.length hi - HT.sIx xs.length 0 lo)
theorem jp5(xs:List V)(lo hi:Option Int):(jfp xs lo hi).length<=xs.length:=by
 unfold jfp;rw [List.length_take,List.length_drop];omega
end
def ixN(n:Nat)(i:Int):Option Nat:=if 0<=i then (if i < n then some i.toNat else none) else if -(n:Int)<=i then some (i + n).toNat else none
def atI{α:Type}(xs:List α)(i:Int):Option α:=(ixN xs.length i).bind λj=>xs[j]?
theorem j0t{n:Nat}{i:Int}{j:Nat}(h:ixN n i=some j):seqIndex? i n=some j/\j < n/\-(n:Int)<=i/\i < n:=by
 unfold ixN at h;by_cases h0:0<=i
 ·rw [if_pos h0] at h;by_cases h1:i < n
  ·rw [if_pos h1] at h;have e:i.toNat=j:=Option.some.inj h
   exact ⟨by rw [seqIndex_of h0 h1,e],by omega,by omega,h1⟩
  ·rw [if_neg h1] at h;cases h
 ·rw [if_neg h0] at h;by_cases h1 : -(n:Int)<=i
  ·rw [if_pos h1] at h;have e:(i + n).toNat=j:=Option.some.inj h
   exact ⟨by rw [seqIndex_neg (by omega) h1,e],by omega,h1,by omega⟩
  ·rw [if_neg h1] at h;cases h
theorem jlx{α:Type}{xs:List α}{i:Int}{v:α}(h:atI xs i=some v):∃ j,seqIndex? i xs.length=some j/\xs[j]? = some v/\j < xs.length/\-(xs.length:Int)<=i/\i < xs.length:=by
 unfold atI at h;cases e:ixN xs.length i with
 | none=>rw [e] at h;cases h
 | some j =>
  rw [e] at h;obtain ⟨h1,h2,h3,h4⟩:=j0t e;exact ⟨j,h1,h,h2,h3,h4⟩
theorem ja3{α:Type}{xs:List α}{j:Nat}{v:α}(h:xs[j]? = some v):atI xs (j:Int)=some v:=by
 have hj:j < xs.length:=(List.getElem?_eq_some_iff.mp h).1;have e:ixN xs.length (j:Int)=some j:=by
  unfold ixN;rw [if_pos (by omega),if_pos (by omega)];simp
 unfold atI;rw [e];exact h
def j08(b:Expr):Prop:=∀ o i,subscripted b false o i=operate [o,i] (getItem o i)
def IxR(X:Cx)(r:R2):Prop :=
 ∀ (value slice:Expr) (pins:List (Addr×Obj)) (s:Shared) (σ:St) (H:Hp) (x y:V) (v u:Value) (Q:VK),Inv X pins σ H s->xm x v->xm y u->r x y H Q->
  subscripted slice false v u=operate [v,u] (getItem v u)->wpAny (model X.prog X.w) X.A (subscriptTail value slice v u) (EP X pins σ Q) X.xe s
def MtR(X:Cx)(id:String)(r:V->List V->Hp->VK->Prop):Prop :=
 ∀ (pins:List (Addr×Obj)) (s:Shared) (σ:St) (H:Hp) (x:V) (xs:List V) (v:Value) (us:List Value) (Q:VK),Inv X pins σ H s->xm x v->qw xs us->r x xs H Q->
  wpAny (model X.prog X.w) X.A (call (.builtin id) (v::us)) (EP X pins σ Q) X.xe s
section
variable{X:Cx}{a b:Expr}{ta tb:TE}{pos:Pos}
theorem xp{r:R2}(hr:IxR X r)(ha:PE X a ta)(hb:PE X b tb)(hs:j08 b):PE X (.Subscript a b pos) (tOp r ta tb):=by
 intro pins s σ H Q I h;exact Subscript_ (jyh ha hb I h λv u s2 x y H2 I2 rx ry q=>hr a b pins s2 σ H2 x y v u Q I2 rx ry q (hs _ _))
def jgu(K:W.Frag):R2:=λx y H Q=>∃ p xs i v,x = .ref p/\y = .int i/\az K H p xs/\atI xs i=some v/\Q v H
def jwz(K:W.Frag):R2:=λx y H Q=>∃ p xs i v,x = .ref p/\y = .int i/\be K H p xs/\atI xs i=some v/\Q v H
def j4u:R2:=λx y H Q=>∃ z i c,x = .str z/\y = .int i/\z.length<=sizeLine/\atI z.cps.toList i=some c/\Q (.str ⟨#[c]⟩) H
theorem qv:IxR X (jgu X.K):=by
 intro value slice pins s σ H x y v u Q I rx ry h hs;obtain ⟨p,xs,i,z,rfl,rfl,hq,he,q⟩:=h;cases rx;obtain ⟨t,rfl⟩:=ry;obtain ⟨ad,r,pl,hz⟩:=I.list hq;obtain ⟨j,h1,h2,h3,h4,h5⟩:=jlx he;obtain ⟨w,ew,rw'⟩:=r.get h2;have hl:=r.length
 have hn:=jh0;have fin:EP X pins σ Q w s:=⟨z,H,I,rw',q⟩
 by_cases h0:0<=i
 ·have hj:i.toNat=j:=by
   rw [seqIndex_of h0 h5] at h1;exact Option.some.inj h1
  exact item_listR pl.isList h0 (by omega) (by rw [hj];simpa using ew) fin hs
 ·have hj:(i + (ad.toArray.size:Int)).toNat=j:=by
   rw [seqIndex_neg (by omega) h4] at h1;rw [List.size_toArray,<- hl];exact Option.some.inj h1
  exact subscriptTail_builtinR (x:=w) pl.isList.typeIs slot_list_getitem.lookup
   (wpAny_getItem_list_neg (Q:=λr s'=>r=w/\EP X pins σ Q r s') pl.isList (by omega) (by rw [List.size_toArray] <;> omega) (by omega) (by rw [hj];simpa using ew) ⟨rfl,fin⟩) hs
theorem jkt:IxR X (jwz X.K):=by
 intro value slice pins s σ H x y v u Q I rx ry h hs;obtain ⟨p,xs,i,z,rfl,rfl,hq,he,q⟩:=h;cases rx;obtain ⟨t,rfl⟩:=ry;obtain ⟨ad,r,pl,hz⟩:=I.tuple hq;obtain ⟨j,h1,h2,h3,h4,h5⟩:=jlx he;obtain ⟨w,ew,rw'⟩:=r.get h2;have hl:=r.length
 have hn:=jh0;have fin:EP X pins σ Q w s:=⟨z,H,I,rw',q⟩
 exact subscriptTail_builtinR (x:=w) pl.typeIs slot_tuple_getitem.lookup
  (getItem_tuple (j:=j) (Q:=λr s'=>r=w/\EP X pins σ Q r s') pl (by omega) (by omega) (by rw [List.size_toArray,<- hl];exact h1) (by simpa using ew) ⟨rfl,fin⟩) hs
theorem j2y:IxR X j4u:=by
 intro value slice pins s σ H x y v u Q I rx ry h hs;obtain ⟨z,i,c,rfl,rfl,hz,he,q⟩:=h;obtain ⟨t,rfl⟩:=rx;obtain ⟨t',rfl⟩:=ry;obtain ⟨j,h1,h2,h3,h4,h5⟩:=jlx he;have hl:z.cps.toList.length=z.length:=by simp [Str.length]
 rw [hl] at h1 h4 h5;have hn:=jh0
 exact tail_any (typeIs_str s z t) slot_str_getitem.lookup (getItem_str (c:=c) (by
  have e1:decide (i < -(2 ^ 63:Int))=false:=df_ (by omega);have e2:decide (i ≥ 2 ^ 63)=false:=df_ (by omega)
  rw [e1,e2,Bool.or_false]) (by rw [h1];simpa using h2) ⟨.str ⟨#[c]⟩,H,I.tok _,⟨_,rfl⟩,q⟩) hs
theorem jnp(lo hi:Option Int)(n:Nat):(sliceBounds lo hi none n).1=((HT.sIx n 0 lo:Nat):Int)/\(sliceBounds lo hi none n).2.1=((HT.sIx n n hi:Nat):Int)/\(sliceBounds lo hi none n).2.2=1:=by
 refine ⟨?_,?_,rfl⟩
 ·cases lo with
  | none=>simp [sliceBounds,HT.sIx]
  | some i =>
   simp only [sliceBounds,HT.sIx,Option.getD_none,show (1:Int) > 0 by decide,if_true];by_cases h:i < 0
   ·simp only [h,if_true] <;> omega
   ·simp only [h,if_false] <;> omega
 ·cases hi with
  | none=>simp [sliceBounds,HT.sIx]
  | some i =>
   simp only [sliceBounds,HT.sIx,Option.getD_none,show (1:Int) > 0 by decide,if_true];by_cases h:i < 0
   ·simp only [h,if_true] <;> omega
   ·simp only [h,if_false] <;> omega
theorem jm1(ad:List Value)(lo hi:Option Int):slicePick ad.toArray lo hi none=((ad.drop (HT.sIx ad.length 0 lo)).take (HT.sIx ad.length ad.length hi - HT.sIx ad.length 0 lo)).toArray:=by
 obtain ⟨h1,h2,h3⟩:=jnp lo hi ad.toArray.size;unfold slicePick;rw [h1,h2,h3];simp only [sliceRange_one,pick_run,List.size_toArray] <;> rfl
def j12(K:W.Frag):V->Option Int->Option Int->Hp->VK->Prop:=λx lo hi H Q=>∃ a xs,x = .ref a/\az K H a xs/\∀ p,H p=none->Q (.ref p) (upd H p (.lst (jfp xs lo hi)))
theorem jek:SlR X (j12 X.K):=by
 intro pins s σ H x v vl vu lo hi sl Q I rx hs pl pu h;obtain ⟨a,xs,rfl,hx,q⟩:=h;cases rx;obtain ⟨ad,r,ht,hz⟩:=I.list hx;have ak:=r.length
 refine ⟨"list",_,slot_list_getitem.lookup,ht.isList.typeIs,?_⟩;refine wpAny_getItem_list_slice ht.isList hs pl pu .none (by simp) ?_ (by rw [List.size_toArray] <;> omega);rw [jm1,<- ak];refine ⟨.ref s.heap.objs.size,_,I.laid (t':=s.toks) (o:=.lst (jfp xs lo hi)) (λb ob q=>Heap.get?_push_of_some _ q) (Nat.le_refl _) ?_,rfl,q _ (I.hok.fresh (Nat.le_refl _))⟩;exact ⟨Nat.le_trans (jp5 xs lo hi) hz,_,0,(r.drop (HT.sIx xs.length 0 lo)).take (HT.sIx xs.length xs.length hi - HT.sIx xs.length 0 lo),Heap.get?_push_size _ rfl⟩
def jef:V->Bool
 | .non=>true
 | .bl _=>true
 | .int _=>true
 | .str _=>true
 | _=>false
def eqV:V->V->Bool
 | .non,.non=>true
 | .bl a,.bl b=>a == b
 | .bl a,.int b=>(if a then 1 else 0) == b
 | .int a,.bl b=>a == (if b then 1 else 0)
 | .int a,.int b=>a == b
 | .str a,.str b=>a == b
 | _,_=>false
theorem j22{A:Around}{s:Shared}{y x:V}{u v:Value}(ry:xm y u)(rx:xm x v)(fy:jef y=true)(fx:jef x=true):SeqAt.EqAt A s u v (eqV y x):=by
 cases y with
 | non =>
  cases ry;cases x with
  | non=>cases rx;exact SeqAt.EqAt.same _
  | bl b=>cases rx;exact SeqAt.EqAt.none_bool b
  | int b=>obtain ⟨t,rfl⟩:=rx;exact SeqAt.EqAt.none_int b t
  | str b=>obtain ⟨t,rfl⟩:=rx;exact SeqAt.EqAt.none_str b t
  | _=>exact absurd (show false=true from fx) Bool.false_ne_true
 | bl a =>
  cases ry;cases x with
  | non=>cases rx;exact SeqAt.EqAt.bool_none a
  | bl b=>cases rx;exact SeqAt.EqAt.bool_bool a b
  | int b=>obtain ⟨t,rfl⟩:=rx;exact SeqAt.EqAt.bool_int a b t
  | str b=>obtain ⟨t,rfl⟩:=rx;exact SeqAt.EqAt.bool_str a b t
  | _=>exact absurd (show false=true from fx) Bool.false_ne_true
 | int a =>
  obtain ⟨t',rfl⟩:=ry;cases x with
  | non=>cases rx;exact SeqAt.EqAt.int_none a t'
  | bl b=>cases rx;exact SeqAt.EqAt.int_bool a t' b
  | int b=>obtain ⟨t,rfl⟩:=rx;exact SeqAt.EqAt.int_int a t' b t
  | str b=>obtain ⟨t,rfl⟩:=rx;exact SeqAt.EqAt.int_str a t' b t
  | _=>exact absurd (show false=true from fx) Bool.false_ne_true
 | str a =>
  obtain ⟨t',rfl⟩:=ry;cases x with
  | non=>cases rx;exact SeqAt.EqAt.str_none a t'
  | bl b=>cases rx;exact SeqAt.EqAt.str_bool a t' b
  | int b=>obtain ⟨t,rfl⟩:=rx;exact SeqAt.EqAt.str_int a t' b t
  | str b=>obtain ⟨t,rfl⟩:=rx;exact SeqAt.EqAt.str_str a t' b t
  | _=>exact absurd (show false=true from fx) Bool.false_ne_true
 | _=>exact absurd (show false=true from fy) Bool.false_ne_true
def eqU(x:V)(u:Value):Bool:=match u with
 | .none=>eqV .non x
 | .bool b=>eqV (.bl b) x
 | .int i _=>eqV (.int i) x
 | .str z _=>eqV (.str z) x
 | _=>false
theorem jvw{x y:V}{u:Value}(r:xm y u)(f:jef y=true):eqU x u=eqV y x:=by
 cases y with
 | non=>cases r;rfl
 | bl b=>cases r;rfl
 | int i=>obtain ⟨t,rfl⟩:=r;rfl
 | str z=>obtain ⟨t,rfl⟩:=r;rfl
 | _=>exact absurd (show false=true from f) Bool.false_ne_true
theorem jly{x:V}:∀ {xs:List V} {us:List Value},qw xs us->xs.all jef=true->us.any (eqU x)=xs.any λy=>eqV y x
 | _,_,.nil,_=>rfl
 | y::xs,u::us,.cons r t,f=>by
  rw [List.all_cons,Bool.and_eq_true] at f;rw [List.any_cons,List.any_cons,jvw r f.1,jly t f.2]
theorem jjm{A:Around}{s:Shared}{x:V}{v:Value}(rx:xm x v)(fx:jef x=true):∀ {xs:List V} {us:List Value},qw xs us->xs.all jef=true->∀ u∈us,SeqAt.EqAt A s u v (eqU x u)
 | _,_,.nil,_=>λu hu=>by cases hu
 | y::xs,u::us,.cons r t,f=>λu' hu=>by
  rw [List.all_cons,Bool.and_eq_true] at f;rcases List.mem_cons.mp hu with rfl | hu
  ·rw [jvw r f.1];exact j22 r rx f.1 fx
  ·exact jjm rx fx t f.2 u' hu
def inV(x:V)(xs:List V):Bool:=xs.any λy=>eqV y x
def rIn(K:W.Frag)(neg:Bool):R2:=λx y H Q=>∃ p xs,y = .ref p/\(az K H p xs\/be K H p xs)/\jef x=true/\xs.all jef=true/\Q (.bl (if neg then !inV x xs else inV x xs)) H
theorem zn:OpR X (compareOp .In) (rIn X.K false):=by
 intro pins s σ H x y v u Q I rx ry h;obtain ⟨p,xs,rfl,hq,fx,fs,q⟩:=h;cases ry;rcases hq with hq | hq
 ·obtain ⟨ad,r,pl,hz⟩:=I.list hq;refine SeqAt.in_listAt (eqU x) pl.isList (λw hw=>jjm rx fx r fs w (by simpa using hw)) ⟨.bl _,H,I,rfl,?_⟩;rw [show ad.toArray.any (eqU x)=ad.any (eqU x) by simp,jly r fs];exact q
 ·obtain ⟨ad,r,pl,hz⟩:=I.tuple hq;refine SeqAt.in_tupleAt (eqU x) pl (λw hw=>jjm rx fx r fs w (by simpa using hw)) ⟨.bl _,H,I,rfl,?_⟩;rw [show ad.toArray.any (eqU x)=ad.any (eqU x) by simp,jly r fs];exact q
theorem xu:jei X (.builtin "len") (λxs H Q=>∃ p ys,xs=[.ref p]/\(az X.K H p ys\/be X.K H p ys)/\Q (.int ys.length) H):=by
 intro pins s σ H xs us Q I r h;obtain ⟨p,ys,rfl,hq,q⟩:=h;obtain ⟨u,rfl,rx⟩:=jid r;cases rx;have hn:=jh0
 rcases hq with hq | hq
 ·obtain ⟨ad,r',pl,hz⟩:=I.list hq;have ak:=r'.length
  exact Calls.call_len_list pl.isList (by simp only [List.size_toArray] <;> omega) ⟨.int ys.length,H,I.tok _,⟨s.toks + 1,by rw [List.size_toArray,ak]⟩,q⟩
 ·obtain ⟨ad,r',pl,hz⟩:=I.tuple hq;have ak:=r'.length
  exact len_tuple pl (by simp only [List.size_toArray] <;> omega) ⟨.int ys.length,H,I.tok _,⟨s.toks + 1,by rw [List.size_toArray,ak]⟩,q⟩
theorem jo9:jei X (.builtin "len") (λxs H Q=>∃ z,xs=[.str z]/\z.length<=sizeLine/\Q (.int z.length) H):=by
 intro pins s σ H xs us Q I r h;obtain ⟨z,rfl,hz,q⟩:=h;obtain ⟨u,rfl,t,rfl⟩:=jid r;have hn:=jh0
 exact len_str (by omega) ⟨.int z.length,H,I.tok _,⟨_,rfl⟩,q⟩
theorem jia:jei X (.type "list") (λxs H Q=>∃ p ys,xs=[.ref p]/\(az X.K H p ys\/be X.K H p ys)/\∀ l,H l=none->Q (.ref l) (upd H l (.lst ys))):=by
 intro pins s σ H xs us Q I r h;obtain ⟨p,ys,rfl,hq,q⟩:=h;obtain ⟨u,rfl,rx⟩:=jid r;cases rx;have fin:∀ (ad:List Value),qw ys ad->ys.length<=sizeLine->∀ (h':Heap) (c':Nat),(∀ b o',s.heap.get? b=some o'->h'.get? b=some o')->
   h'.get? s.heap.objs.size=some { cls:=.type "list",dict:=none,data:=.seq ad.toArray c',slots := #[] }->EP X pins σ Q (.ref s.heap.objs.size) { s with heap:=h' }:=λad r' hz h' c' kp e =>
  ⟨.ref s.heap.objs.size,_,I.laid (t':=s.toks) kp (Nat.le_refl _) (show y_ X.prog X.w _ h' _ (.lst ys) from ⟨hz,ad,c',r',e⟩),rfl,q _ (I.hok.fresh (Nat.le_refl _))⟩
 rcases hq with hq | hq
 ·obtain ⟨ad,r',pl,hz⟩:=I.list hq;have ak:=r'.length
  obtain ⟨o,ho,hc,n,hd⟩:=pl.isList;exact call_list_seq p (.inl rfl) ho hc hd (λh' c' kp e=>fin ad r' hz h' c' kp e) (by simp only [List.size_toArray] <;> omega)
 ·obtain ⟨ad,r',pl,hz⟩:=I.tuple hq;have ak:=r'.length
  obtain ⟨o,ho,hc,n,hd⟩:=pl;exact call_list_seq p (.inr rfl) ho hc hd (λh' c' kp e=>fin ad r' hz h' c' kp e) (by simp only [List.size_toArray] <;> omega)
theorem jm6:jei X (.type "tuple") (λxs H Q=>∃ p ys,xs=[.ref p]/\((az X.K H p ys/\∀ l,H l=none->Q (.ref l) (upd H l (.tup ys)))\/(be X.K H p ys/\Q (.ref p) H))):=by
 intro pins s σ H xs us Q I r h;obtain ⟨p,ys,rfl,h⟩:=h;obtain ⟨u,rfl,rx⟩:=jid r;cases rx;rcases h with ⟨hq,q⟩ | ⟨hq,q⟩
 ·obtain ⟨ad,r',pl,hz⟩:=I.list hq;have ak:=r'.length
  refine call_tuple_list pl.isList (λh' kp=>?_) (by simp only [List.size_toArray] <;> omega);have I1:Inv X pins σ H { s with heap:=h' }:=I.kept (t':=s.toks) kp
  have I2:Inv X pins σ (upd H h'.objs.size (.tup ys)) { s with heap:=h'.push { cls:=.type "tuple",data:=.seq ad.toArray } } :=
   I1.laid (t':=s.toks) (λb o e=>Heap.get?_push_of_some _ e) (Nat.le_refl _) (show y_ X.prog X.w _ _ _ (.tup ys) from ⟨hz,ad,r',IsTup.new _ _⟩)
  exact ⟨.ref h'.objs.size,_,I2,rfl,q _ (I1.hok.fresh (Nat.le_refl _))⟩
 ·obtain ⟨ad,r',pl,hz⟩:=I.tuple hq;exact call_tuple_same pl ⟨.ref p,H,I,rfl,q⟩
def tyV(K:W.Frag)(T:String)(x:V)(H:Hp):Prop:=match x with
 | .str _=>T = "str"
 | .int _=>T = "int"
 | .ref p=>(T = "list"/\∃ xs,az K H p xs)\/(T = "tuple"/\∃ o,K.lookup p=some o/\o.cls = .type "tuple"/\o.dict=none)\/
   (T = "dict"/\((∃ ae,H p=some (.dK ae))\/∃ ae,H p=some (.dT ae)))\/(T = "set"/\∃ S n,H p=some (.set S n))
 | _=>False
theorem jto{pins:List (Addr×Obj)}{σ:St}{H:Hp}{s:Shared}{T:String}{x:V}{v:Value}(I:Inv X pins σ H s)(r:xm x v)(ty:tyV X.K T x H) :
  s.TypeIs v T/\∀ a,v = .ref a->∃ ob,s.heap.get? a=some ob/\ob.dict=none:=by
 cases x with
 | str z =>
  obtain ⟨t,rfl⟩:=r;cases (show T = "str" from ty);exact ⟨typeIs_str s z t,λ_ e=>nomatch e⟩
 | int i =>
  obtain ⟨t,rfl⟩:=r;cases (show T = "int" from ty);exact ⟨typeIs_int s i t,λ_ e=>nomatch e⟩
 | ref p =>
  cases r;rcases ty with ⟨rfl,xs,hq⟩ | ⟨rfl,o,hk,hc,hd⟩ | ⟨rfl,hk⟩ | ⟨rfl,S,n,hk⟩
  ·obtain ⟨ad,_,pl,_⟩:=I.list hq;refine ⟨pl.isList.typeIs,λa e=>?_⟩;cases e;obtain ⟨o,n,e,c,hd,_⟩:=pl;exact ⟨o,e,hd⟩
  ·refine ⟨⟨o,I.kIn p o hk,hc⟩,λa e=>?_⟩;cases e;exact ⟨o,I.kIn _ o hk,hd⟩
  ·have z:∃ o,s.heap.get? p=some o/\o.ExactDict:=by
    rcases hk with ⟨ae,hk⟩ | ⟨ae,hk⟩
    ·obtain ⟨_,_,_,_,o,_,_,e,ex,_⟩:=I.hok p _ hk;exact ⟨o,e,ex⟩
    ·obtain ⟨_,_,_,_,o,_,_,e,ex,_⟩:=I.hok p _ hk;exact ⟨o,e,ex⟩
   obtain ⟨o,e,ex⟩:=z;refine ⟨⟨o,e,ex.1⟩,λa e2=>?_⟩;cases e2;exact ⟨o,e,ex.2.1⟩
  ·obtain ⟨o,_,_,_,e,ex,_⟩:=I.hok p _ hk;refine ⟨⟨o,e,ex.1⟩,λa e2=>?_⟩;cases e2;exact ⟨o,e,ex.2.1⟩
 | _=>exact False.elim ty
def j4h(K:W.Frag)(T:String)(r:V->List V->Hp->VK->Prop)(to:TE):TE:=λσ H Q=>to σ H λx H1=>tyV K T x H1/\r x [] H1 Q
def tBM(K:W.Frag)(T:String)(r:V->List V->Hp->VK->Prop)(to:TE)(t:TA):TE:=λσ H Q=>to σ H λx H1=>tyV K T x H1/\t σ H1 λxs H2=>r x xs H2 Q
variable{o e:Expr}{es:List Expr}{to:TE}{t:TA}{name:Str}{apos cpos:Pos}{T id:String}{r:V->List V->Hp->VK->Prop}
theorem j2d(pa:PlainAttrs T)(slot:Slot T name id)(hty:typeOf (.builtin id)=pure (.type "method_descriptor"))(hm:MtR X id r)(ho:PE X o to)
  (hbase:attributeBase o name X.env (eval o X.env)=eval o X.env:=by rfl) (hline:(apos.endLine == cpos.line)=true:=by rfl):PE X (.Call (.Attribute o name apos) [] [] cpos) (j4h X.K T r to):=by
 intro pins s σ H Q I h;refine wpAny_Call_method0_late hbase hline (thn (ho pins s σ H _ I h) λv s1 ⟨x,H1,I1,r1,ty,q1⟩=>?_);obtain ⟨h1,h2⟩:=jto I1 r1 ty;exact ⟨T,id,pa,slot,hty,h1,h2,Calls.callWith_builtin rfl (PySem.evalArgs_none (hm pins s1 σ H1 x [] v [] Q I1 r1 .nil q1))⟩
theorem vd(pa:PlainAttrs T)(slot:Slot T name id)(hty:typeOf (.builtin id)=pure (.type "method_descriptor"))(hm:MtR X id r)(ho:PE X o to)(ha:PA X (e::es) t)
  (hbase:attributeBase o name X.env (eval o X.env)=eval o X.env:=by rfl)
  (hfew:((backTo cpos (starEach (e::es) X.env)).all (λx => !x.1) && (backToKw cpos (keywordEach [] X.env)).all (λx=>x.1.isSome)
   && decide ((e::es).length + ([]:List Keyword).length + (if ([]:List Keyword).isEmpty then 0 else 1) < 30))=true:=by rfl)
  (hline:(apos.endLine == cpos.line)=true:=by rfl) (hs:starEach (e::es) X.env=(false,eval e X.env)::starEach es X.env:=by rfl) (hplain:(backTo cpos (starEach es X.env)).any (·.1)=false:=by rfl) :
  PE X (.Call (.Attribute o name apos) (e::es) [] cpos) (tBM X.K T r to t):=by
 intro pins s σ H Q I h;refine wpAny_Call_method_late hbase hfew hline rfl (thn (ho pins s σ H _ I h) λv s1 ⟨x,H1,I1,r1,ty,q1⟩=>?_);obtain ⟨h1,h2⟩:=jto I1 r1 ty;refine ⟨T,id,pa,slot,hty,h1,h2,?_⟩;have hA:=ha cpos pins s1 σ H1 _ I1 q1
 rw [hs] at hA ⊢;refine Calls.callWith_builtin (by show (false || (backTo cpos (starEach es X.env)).any (·.1))=false;rw [hplain] <;> rfl) (Calls.evalArgs_plain ?_);exact thn hA λus s2 ⟨vs,H2,I2,r2,q2⟩=>hm pins s2 σ H2 x vs v us Q I2 r1 r2 q2
end
def MtM(X:Cx)(id:String)(r:V->List V->Hp->VK->Prop):Prop :=
 ∀ (pins:List (Addr×Obj)) (s:Shared) (σ:St) (H:Hp) (x:V) (xs:List V) (v:Value) (us:List Value) (Q:VK),Inv X pins σ H s->xm x v->qw xs us->r x xs H Q->
  wpAny (model X.prog X.w) X.A (call (.builtin id) (v::us)) (EP X pins σ Q) X.xe s
theorem qw.one:∀ {x:V} {us:List Value},qw [x] us->∃ u,us=[u]/\xm x u
 | _,_,.cons r .nil=>⟨_,rfl,r⟩
theorem qw.zero:∀ {us:List Value},qw [] us->us=[]
 | _,.nil=>rfl
theorem qw.dropLast{xs:List V}{us:List Value}(h:qw xs us):qw xs.dropLast us.dropLast:=by
 induction h with
 | nil=>exact .nil
 | cons r t ih =>
  cases t with
  | nil=>exact .nil
  | cons q t'=>exact .cons r ih
theorem js7{α:Type}(l:List α):l.eraseIdx (l.length - 1)=l.dropLast:=by
 induction l with
 | nil=>rfl
 | cons a r ih =>
  cases r with
  | nil=>rfl
  | cons b r =>
   have e:(a::b::r).length - 1=((b::r).length - 1) + 1:=by
    have h1:(a::b::r).length=r.length + 2:=rfl;have h2:(b::r).length=r.length + 1:=rfl
    omega
   rw [e,List.eraseIdx_cons_succ,ih];all_goals rfl
section
variable{X:Cx}{pins:List (Addr×Obj)}{σ:St}{H:Hp}{s:Shared}{l b:Addr}{xs ys zs:List V}
theorem Inv.lset{ad its':List Value}{n:Nat}{f:Array Value->Array Value}{t':Nat}(I:Inv X pins σ H s)(hH:H l=some (.lst xs))
  (e:s.heap.get? l=some { cls:=.type "list",data:=.seq ad.toArray n }) (hf:f ad.toArray=its'.toArray) (hv:qw ys its') (hz:ys.length<=sizeLine) :
  Inv X pins σ (upd H l (.lst ys)) { s with heap:=s.heap.update l (Obj.mapSeq f),toks:=t' }:=by
 have q:=PySem.IsL.update e f;rw [hf] at q;refine I.write (x:=l) (e:=l) (by rw [hH];exact trivial) (.inl rfl) (λb' u hb hu=>(Heap.get?_update_other s.heap (Obj.mapSeq f) (Ne.symm hb)).trans hu) ⟨_,q⟩ ?_;exact ⟨hz,its',_,hv,q⟩
theorem Inv.lnew{ad:List Value}{t':Nat}(I:Inv X pins σ H s)(hv:qw ys ad)(hz:ys.length<=sizeLine) :
  Inv X pins σ (upd H s.heap.objs.size (.lst ys)) { s with heap:=s.heap.push { cls:=.type "list",data:=.seq ad.toArray },toks:=t' } :=
 I.laid (λ_ _ q=>Heap.get?_push_of_some _ q) (Nat.le_refl _) ⟨hz,ad,0,hv,Heap.get?_push_size _ rfl⟩
theorem Inv.fresh(I:Inv X pins σ H s):H s.heap.objs.size=none:=I.hok.fresh (Nat.le_refl _)
theorem Inv.lstM(I:Inv X pins σ H s)(hH:H l=some (.lst xs)):xs.length<=sizeLine/\∃ (ad:List Value) (n:Nat),qw xs ad/\xs.length=ad.length/\s.heap.get? l=some { cls:=.type "list",data:=.seq ad.toArray n }:=by
 obtain ⟨z,ad,n,r,e⟩:=I.hok l _ hH;exact ⟨z,ad,n,r,r.length,e⟩
theorem jon{n:Nat}(h:n<=sizeLine):Builtin.List.listTooLong n=false:=by
 unfold Builtin.List.listTooLong;exact df_ (by omega)
end
section
variable{X:Cx}
def jzt:V->List V->Hp->VK->Prop:=λx vs H Q=>∃ l xs y,x = .ref l/\vs=[y]/\H l=some (.lst xs)/\xs.length < sizeLine/\Q .non (upd H l (.lst (xs ++ [y])))
theorem zh:MtM X "list.append" jzt:=by
 intro pins s σ H x vs v us Q I rx rv h;obtain ⟨l,xs,y,rfl,rfl,hH,hz,q⟩:=h;cases rx;obtain ⟨u,rfl,ru⟩:=rv.one;obtain ⟨z,ad,n,r,hl,e⟩:=I.lstM hH;refine call_meets F.slot_list_append ⟨_,e,rfl⟩ F.entry_list_append (F.args_list_append_2 _ _) (PySem.list_append l ad.toArray n u (by rw [List.size_toArray];omega)) ⟨e,?_⟩;refine ⟨.non,_,I.lset (its':=ad ++ [u]) hH e (by simp) (r.append (.cons ru .nil)) ?_,rfl,q⟩;rw [List.length_append,List.length_singleton];omega
def jzs:V->List V->Hp->VK->Prop:=λx vs H Q=>∃ l b xs zs,x = .ref l/\vs=[.ref b]/\H l=some (.lst xs)/\H b=some (.lst zs)/\xs.length + zs.length<=sizeLine/\Q .non (upd H l (.lst (xs ++ zs)))
theorem jcd:MtM X "list.extend" jzs:=by
 intro pins s σ H x vs v us Q I rx rv h;obtain ⟨l,b,xs,zs,rfl,rfl,hH,hB,hz,q⟩:=h;cases rx;obtain ⟨u,rfl,ru⟩:=rv.one;cases ru;obtain ⟨z,ad,n,r,hl,e⟩:=I.lstM hH;obtain ⟨z2,its2,n2,r2,hl2,e2⟩:=I.lstM hB;have hsz:ad.toArray.size + its2.toArray.size<=sizeLine:=by rw [List.size_toArray,List.size_toArray];omega
 have hlong:¬ (!ad.toArray.isEmpty && Builtin.List.listTooLong (ad.toArray.size + its2.toArray.size))=true:=by
  rw [jon hsz,Bool.and_false];exact Bool.false_ne_true
 refine call_meets F.slot_list_extend ⟨_,e,rfl⟩ F.entry_list_extend (F.args_list_extend_2 _ _)
  (AutoSeq1.list_extend_list_list_0 l ad.toArray n b its2.toArray n2 hlong (by rw [List.size_toArray];omega) (by omega)) ⟨e,e2,?_⟩
 refine ⟨.non,_,I.lset (its':=ad ++ its2) hH e (by simp) (r.append r2) ?_,rfl,q⟩;rw [List.length_append];omega
def j4s:V->List V->Hp->VK->Prop:=λx vs H Q=>∃ l xs y,x = .ref l/\vs=[]/\H l=some (.lst xs)/\xs[xs.length - 1]? = some y/\Q y (upd H l (.lst xs.dropLast))
theorem j2r:MtM X "list.pop" j4s:=by
 intro pins s σ H x vs v us Q I rx rv h;obtain ⟨l,xs,y,rfl,rfl,hH,hy,q⟩:=h;cases rx;have hus:=rv.zero
 subst hus;obtain ⟨z,ad,n,r,hl,e⟩:=I.lstM hH;obtain ⟨u,hu,ru⟩:=r.get hy;have hy':ad.toArray[ad.toArray.size - 1]? = some u:=by
  show ad.toArray[ad.length - 1]? = some u;rw [<- Array.getElem?_toList,<- hl];exact hu
 refine call_meets F.slot_list_pop ⟨_,e,rfl⟩ F.entry_list_pop (F.args_list_pop_1 _) (MeetsSeq.list_pop_last l ad.toArray n u hy' (by rw [List.size_toArray];omega)) ⟨e,?_⟩;refine ⟨y,_,I.lset (its':=ad.dropLast) hH e ?_ r.dropLast ?_,ru,q⟩
 ·show ad.toArray.eraseIdxIfInBounds (ad.toArray.size - 1)=ad.dropLast.toArray;rw [List.size_toArray,List.eraseIdxIfInBounds_toArray,js7]
 ·rw [List.length_dropLast];omega
def jhu:R2:=λx y H Q=>∃ l b xs zs,x = .ref l/\y = .ref b/\H l=some (.lst xs)/\H b=some (.lst zs)/\xs.length + zs.length<=sizeLine/\∀ p,H p=none->Q (.ref p) (upd H p (.lst (xs ++ zs)))
theorem qh:OpR X (binaryOp .Add) jhu:=by
 intro pins s σ H x y v u Q I rx ry h;obtain ⟨l,b,xs,zs,rfl,rfl,hH,hB,hz,q⟩:=h;cases rx;cases ry;obtain ⟨z,ad,n,r,hl,e⟩:=I.lstM hH;obtain ⟨z2,its2,n2,r2,hl2,e2⟩:=I.lstM hB;refine PySem.P.add_list e e2 ?_ (by rw [List.size_toArray,List.size_toArray];omega);have ea:ad.toArray ++ its2.toArray=(ad ++ its2).toArray:=by simp
 rw [ea];exact ⟨.ref _,_,I.lnew (t':=s.toks) (r.append r2) (by rw [List.length_append];omega),rfl,q _ I.fresh⟩
end
section
variable{prog:Program}{w:World}{A:Around}{E:Value->Shared->Prop}{s:Shared}
set_option maxRecDepth 100000 in
end
theorem qw.ints:∀ {ns:List Int} {us:List Value},qw (ns.map V.int) us->IntsAre us ns
 | [],us,h=>by
  rw [List.map_nil] at h;cases h;exact IntsAre.nil
 | n::ns,us,h=>by
  rw [List.map_cons] at h;cases h with
  | cons r t =>
   obtain ⟨k,rfl⟩:=r;exact IntsAre.cons n k (qw.ints t)
theorem qw.ref1{a:Addr}{us:List Value}(r:qw [V.ref a] us):us=[Value.ref a]:=by
 cases r with
 | cons r t =>
  cases t;cases r;rfl
section
variable{prog:Program}{w:World}{A:Around}{E:Value->Shared->Prop}{s:Shared}{l:Addr}{ad:List Value}{ns:List Int}{Q:Value->Shared->Prop}
theorem j0q(hh:A.handled=none)(hl:s.heap.IsList l ad.toArray)(hi:IntsAre ad ns)(hne:0 < ns.length)
  (h:∀ h' tk M t',(∀ b o,s.heap.get? b=some o->h'.get? b=some o)->M∈ns->(∀ a,a∈ns->a<=M)->Q (.int M t') { s with heap:=h',toks:=tk }):wpAny (model prog w) A (call (.builtin "max") [.ref l]) Q E s:=by
 obtain ⟨xs,e⟩:=hi.allInts.items;have hn:numsOf (intItems xs).toList=ns:=by rw [<- e];exact hi.numsOf
 rw [nums_intItems] at hn;subst hn;rw [e] at hl;have hsz:0 < xs.size:=by simpa using hne
 refine PySem.max_intList hh hl hsz λv h' tk hv hk=>?_;obtain ⟨t,rfl⟩:=intItems_at hv;obtain ⟨h1,h2⟩:=argBest_gt (numAt xs) (xs.size - 1);refine h h' tk _ t hk ?_ λa ha=>?_
 ·rw [numAt_eq];exact PySem.getD_mem (by rw [List.length_map,Array.length_toList];omega)
 ·obtain ⟨j,hj,rfl⟩:=mem_getD ha;rw [List.length_map,Array.length_toList] at hj;rw [<- numAt_eq];exact h2 j (by omega)
end
section
variable{X:Cx}
def j4t(K:W.Frag):List V->Hp->VK->Prop:=λvs H Q=>∃ (a:Addr) (ns:List Int),vs=[V.ref a]/\az K H a (ns.map V.int)/\0 < ns.length/\∀ m,m∈ns->(∀ y,y∈ns->y<=m)->Q (.int m) H
theorem j25(hc:X.calm=true):jei X (.builtin "max") (j4t X.K):=by
 intro pins s σ H vs us Q I r h;obtain ⟨a,ns,rfl,hs,hne,q⟩:=h;obtain ⟨ad,rv,hl,_⟩:=I.list hs;rw [qw.ref1 r];exact j0q (I.ok.hd hc) hl.isList rv.ints hne λh' tk m t' hk h1 h2=>⟨.int _,H,I.kept hk,⟨_,rfl⟩,q m h1 h2⟩
end
abbrev jwf(h:Heap)(c:Addr)(v:Option Value):Prop:=h.IsCell c v
def j4r(scope sc:Scope):Scope :=
 { scope with names:=scope.names.map λ(n,k)=>if (k == .free && sc.kind == .function && sc.names.lookup n == some .cell) then (n,.cell) else (n,k) }
def yr(cells:List (Str×Addr)):List (Str×NameKind)->List (Str×Addr)->List (Str×Addr)
 | [],acc=>acc
 | (n,k)::r,acc=>if k == .free then yr cells r ((n,(cells.lookup n).getD 0)::acc) else yr cells r acc
theorem jh7(env:Env)(f:Str×NameKind->List (Str×Addr)->Sem (ForInStep (List (Str×Addr))))
  (hf:∀ n k c,f (n,k) c=if k == .free then (do let a <- cellOf env n;pure (.yield ((n,a)::c))) else pure (.yield c)) :
  ∀ (names:List (Str×NameKind)) (acc:List (Str×Addr)),(∀ y∈names,y.2 = .free->∃ c,env.cells.lookup y.1=some c)->forIn names acc f=pure (yr env.cells names acc)
 | [],acc,_=>by rw [List.forIn_nil];rfl
 | (n,k)::r,acc,h=>by
  rw [List.forIn_cons,hf];have ih:=λacc=>jh7 env f hf r acc λy hy=>h y (List.mem_cons_of_mem _ hy)
  unfold yr;by_cases hk:(k == NameKind.free)=true
  ·rw [if_pos hk,if_pos hk];obtain ⟨c,hc⟩:=h (n,k) List.mem_cons_self (by simpa using hk);have e:cellOf env n=pure c:=by unfold cellOf;rw [hc]
   rw [e];have e2:(env.cells.lookup n).getD 0=c:=by rw [hc];rfl
   rw [e2];exact ih _
  ·rw [if_neg hk,if_neg hk];exact ih _
theorem jtc{scope:Scope}{env:Env}(h:∀ y∈scope.names,y.2 = .free->∃ c,env.cells.lookup y.1=some c):closureFor scope env=pure (yr env.cells scope.names []):=by
 simp only [closureFor];rw [jh7 env _ (λn k c=>rfl) scope.names [] h];rfl
theorem jg2{α:Type}:∀ {l:List (Str×α)} {n:Str} {c:α},(n,c)∈l->∃ c',l.lookup n=some c'
 | (k,v)::r,n,c,h=>by
  rw [List.lookup_cons];cases hb:n == k with
  | true=>exact ⟨_,rfl⟩
  | false =>
   rcases List.mem_cons.mp h with e | h
   ·cases e;simp at hb
   ·exact jg2 h
theorem jdi{cells:List (Str×Addr)}:∀ {names:List (Str×NameKind)} {acc:List (Str×Addr)} {n:Str} {c:Addr},(n,c)∈yr cells names acc->(n,c)∈acc\/((n,.free)∈names/\c=(cells.lookup n).getD 0)
 | [],_,_,_,h=>.inl h
 | (m,k)::r,acc,n,c,h=>by
  unfold yr at h;split at h
  ·rename_i hk;have hk:k = .free:=by simpa using hk
   rcases jdi h with h | ⟨h1,h2⟩
   ·rcases List.mem_cons.mp h with e | h
    ·cases e;exact .inr ⟨hk▸List.mem_cons_self,rfl⟩
    ·exact .inl h
   ·exact .inr ⟨List.mem_cons_of_mem _ h1,h2⟩
  ·rcases jdi h with h | ⟨h1,h2⟩
   ·exact .inl h
   ·exact .inr ⟨List.mem_cons_of_mem _ h1,h2⟩
theorem jfr{cells:List (Str×Addr)}:∀ {names:List (Str×NameKind)} {acc:List (Str×Addr)} {p:Str×Addr},p∈acc->p∈yr cells names acc
 | [],_,_,h=>h
 | (m,k)::r,acc,p,h=>by
  unfold yr;split
  ·exact jfr (List.mem_cons_of_mem _ h)
  ·exact jfr h
theorem jfq{cells:List (Str×Addr)}:∀ {names:List (Str×NameKind)} {acc:List (Str×Addr)} {n:Str},(n,.free)∈names->(n,(cells.lookup n).getD 0)∈yr cells names acc
 | (m,k)::r,acc,n,h=>by
  unfold yr;rcases List.mem_cons.mp h with e | h
  ·cases e;exact jfr List.mem_cons_self
  ·split
   ·exact jfq h
   ·exact jfq h
theorem jds:∀ {names:List (Str×NameKind)} {h:Heap} {acc:List (Str×Addr)} {x:Str} {c:Addr},(x,c)∈cellsFrom h.objs.size names acc->
  (x,c)∈acc\/((x,.cell)∈names/\h.objs.size<=c/\jwf (pushCells h names) c none)
 | [],_,_,_,_,h=>.inl h
 | (n,k)::r,h,acc,x,c,hm=>by
  unfold cellsFrom at hm;unfold pushCells;split at hm
  ·rename_i hk;rw [if_pos hk];have hk:k = .cell:=by simpa using hk
   rw [<- Heap.size_push h { cls:=.type "cell",data:=.cell none }] at hm;rcases jds hm with hm | ⟨h1,h2,h3⟩
   ·rcases List.mem_cons.mp hm with e | hm
    ·cases e;exact .inr ⟨hk▸List.mem_cons_self,Nat.le_refl _,_,pushCells_keeps r _ _ _ (Heap.get?_push_size _ rfl),rfl⟩
    ·exact .inl hm
   ·rw [Heap.size_push] at h2;exact .inr ⟨List.mem_cons_of_mem _ h1,Nat.le_of_succ_le h2,h3⟩
  ·rename_i hk;rw [if_neg hk];rcases jds hm with hm | ⟨h1,h2,h3⟩
   ·exact .inl hm
   ·exact .inr ⟨List.mem_cons_of_mem _ h1,h2,h3⟩
theorem jfc:∀ {names:List (Str×NameKind)} {n:Nat} {acc:List (Str×Addr)} {p:Str×Addr},p∈acc->p∈cellsFrom n names acc
 | [],_,_,_,h=>h
 | (m,k)::r,n,acc,p,h=>by
  unfold cellsFrom;split
  ·exact jfc (List.mem_cons_of_mem _ h)
  ·exact jfc h
theorem jh_:∀ {names:List (Str×NameKind)} {n:Nat} {acc:List (Str×Addr)} {x:Str},(x,.cell)∈names->∃ c,(x,c)∈cellsFrom n names acc
 | (m,k)::r,n,acc,x,h=>by
  unfold cellsFrom;rcases List.mem_cons.mp h with e | h
  ·cases e;exact ⟨n,jfc List.mem_cons_self⟩
  ·split
   ·exact jh_ h
   ·exact jh_ h
theorem jh9:∀ {names:List (Str×NameKind)} {h:Heap} {acc:List (Str×Addr)} {x y:Str} {c:Addr},(∀ p∈acc,p.2 < h.objs.size)->(∀ x y c,(x,c)∈acc->(y,c)∈acc->x=y)->
  (x,c)∈cellsFrom h.objs.size names acc->(y,c)∈cellsFrom h.objs.size names acc->x=y
 | [],_,_,_,_,_,_,hi,h1,h2=>hi _ _ _ h1 h2
 | (n,k)::r,h,acc,x,y,c,hl,hi,h1,h2=>by
  unfold cellsFrom at h1 h2;split at h1
  ·rename_i hk;rw [if_pos hk] at h2;rw [<- Heap.size_push h { cls:=.type "cell",data:=.cell none }] at h1 h2;refine jh9 (h:=h.push _) (λp hp=>?_) (λx y c a b=>?_) h1 h2
   ·rw [Heap.size_push];rcases List.mem_cons.mp hp with rfl | hp
    ·exact Nat.lt_succ_self _
    ·exact Nat.lt_succ_of_lt (hl p hp)
   ·rcases List.mem_cons.mp a with e | a <;> rcases List.mem_cons.mp b with e' | b
    ·cases e;cases e';rfl
    ·cases e;exact absurd (hl _ b) (Nat.lt_irrefl _)
    ·cases e';exact absurd (hl _ a) (Nat.lt_irrefl _)
    ·exact hi _ _ _ a b
  ·rename_i hk;rw [if_neg hk] at h2;exact jh9 hl hi h1 h2
theorem jpq{M:Model}{A:Around}{E:Value->Shared->Prop}{s:Shared}{scope:Scope}{globals:Addr}{closure:List (Str×Addr)}{qual:Str}{func:Option Addr}{code:Value}{around:Env}{builtins:Addr}{Q:Env->Shared->Prop}
  (h:Q (newEnv scope s.heap.objs.size globals (cellsFrom (s.heap.objs.size + 1) scope.names closure) qual func code (some around) builtins)
   { s with heap:=pushCells (s.heap.push { cls:=.type "dict",data:=.dict #[] }) scope.names }) :
  wpAny M A (newFunctionEnv scope globals closure [] qual func code (some around) builtins) Q E s:=by
 simp only [newFunctionEnv,Option.isSome_some,if_true];refine wpAny_bind (wpAny_alloc ?_);refine wpAny_bind (wpAny_layCells _ (λn k c=>rfl) scope.names closure _ _ ?_);rw [show ({ s with heap:=s.heap.push { cls:=.type "dict",data:=.dict #[] } }:Shared).heap.objs.size=s.heap.objs.size + 1 from Heap.size_push ..];rw [List.forIn_nil];exact wpAny_bind (wpAny_pure (wpAny_pure h))
theorem jfn{sc:Scope}:∀ {names:List (Str×NameKind)} {x:Str} {k:NameKind},
  (names.map λ(n,k)=>if (k == NameKind.free && sc.kind == .function && sc.names.lookup n == some .cell) then (n,NameKind.cell) else (n,k)).lookup x=some k->
  ∃ k',names.lookup x=some k'/\(k=k'\/(k' = .free/\k = .cell))
 | [],_,_,h=>by simp at h
 | (n,k₀)::r,x,k,h=>by
  have ih := @jfn sc r x k;have h':List.lookup x ((if (k₀ == NameKind.free && sc.kind == .function && sc.names.lookup n == some .cell)=true then (n,NameKind.cell) else (n,k₀))::(r.map _))=some k:=h
  cases hx:x == n with
  | true =>
   simp only [List.lookup_cons,hx];by_cases hc:(k₀ == NameKind.free && sc.kind == .function && sc.names.lookup n == some .cell)=true
   ·rw [if_pos hc] at h';simp only [List.lookup_cons,hx] at h';cases h';simp only [Bool.and_eq_true,beq_iff_eq] at hc;exact ⟨k₀,rfl,.inr ⟨hc.1.1,rfl⟩⟩
   ·rw [if_neg hc] at h';simp only [List.lookup_cons,hx] at h';cases h';exact ⟨_,rfl,.inl rfl⟩
  | false =>
   simp only [List.lookup_cons,hx];by_cases hc:(k₀ == NameKind.free && sc.kind == .function && sc.names.lookup n == some .cell)=true
   ·rw [if_pos hc] at h';simp only [List.lookup_cons,hx] at h';exact ih h'
   ·rw [if_neg hc] at h';simp only [List.lookup_cons,hx] at h';exact ih h'
structure ja8(N:List Str)(sc scope:Scope)(own:List (Str×Nat)):Prop where
 kind:scope.kind = .function
 uniq:∀ y∈scope.names,scope.names.lookup y.1=some y.2
 ix:∀ p∈own,N[p.2]? = some p.1
 free:∀ y∈scope.names,y.2 = .free->sc.names.lookup y.1=some .cell\/sc.names.lookup y.1=some .free
 own:∀ y∈scope.names,y.2 = .local\/y.2 = .cell->y.1∈own.map (·.1)\/y.1∉N
def zw(σ:St):List Nat->St
 | []=>σ
 | v::vs=>(zw σ vs).set v none
theorem jfd(σ:St):∀ vs:List Nat,(zw σ vs).length=σ.length
 | []=>rfl
 | v::vs=>by unfold zw;rw [List.length_set,jfd σ vs]
theorem jhe{σ:St}{i:Nat}{x:V}:∀ {vs:List Nat},(zw σ vs)[i]? = some (some x)->σ[i]? = some (some x)/\i∉vs
 | [],h=>⟨h,by simp⟩
 | v::vs,h=>by
  unfold zw at h;by_cases hi:v=i
  ·subst hi;by_cases hv:v < (zw σ vs).length
   ·rw [List.getElem?_set_self hv] at h;cases h
   ·rw [List.getElem?_eq_none (by simpa using hv)] at h;cases h
  ·rw [List.getElem?_set_ne hi] at h;obtain ⟨h1,h2⟩:=jhe h;exact ⟨h1,by simp only [List.mem_cons,not_or];exact ⟨λe=>hi e.symm,h2⟩⟩
abbrev Cx.blk(X:Cx)(s:Shared)(H:Hp)(scope:Scope)(cenv:Env)(fp:List Addr):Cx:={ X with s_0:=s,H_0:=H,env:=cenv,outer:=X.stack,ex:=fp,fn:=λx=>scope.names.lookup x == some .cell,pn:=[],xe:=λ_ _=>False }
section
variable{X:Cx}{pins:List (Addr×Obj)}{σ:St}{H:Hp}{s:Shared}
theorem jp6{scope:Scope}{own:List (Str×Nat)}{fp:List Addr}(I:Inv X pins σ H s)(ok:ja8 X.N X.env.scope scope own)(hN:X.N.Nodup)(hfp:∀ b∈fp,jd1 X pins H b/\b < s.heap.objs.size) :
  Inv (X.blk s H scope (compEnvC scope (cellsFrom (s.heap.objs.size + 1) scope.names (yr X.env.cells scope.names [])) s.heap.objs.size X.env) fp) [] (zw σ (own.map (·.2))) H { s with heap:=pushCells (s.heap.push { cls:=.type "dict",data:=.dict #[] }) scope.names }:=by
 have hfree:∀ y∈scope.names,y.2 = .free->∃ c,X.env.cells.lookup y.1=some c:=λy hy e=>by
  rcases ok.free y hy e with k | k
  ·exact I.ok.has _ (.inl k)
  ·exact I.ok.has _ (.inr k)
 generalize hcenv:compEnvC scope (cellsFrom (s.heap.objs.size + 1) scope.names (yr X.env.cells scope.names [])) s.heap.objs.size X.env=cenv;have kp:∀ b o,s.heap.get? b=some o->(pushCells (s.heap.push { cls:=.type "dict",data:=.dict #[] }) scope.names).get? b=some o:=λb o e=>pushCells_keeps _ _ _ _ (Heap.get?_push_of_some _ e)
 have hL:cenv.locals=s.heap.objs.size:=by rw [<- hcenv];rfl
 have hcl:cenv.cells=cellsFrom (s.heap.objs.size + 1) scope.names (yr X.env.cells scope.names []):=by rw [<- hcenv];rfl
 have hsc:cenv.scope=j4r scope X.env.scope:=by rw [<- hcenv];rfl
 rw [<- Heap.size_push s.heap { cls:=.type "dict",data:=.dict #[] }] at hcl;have cm:∀ {y c},(y,c)∈yr X.env.cells scope.names []->X.env.cells.lookup y=some c/\c < s.heap.objs.size:=λ{y c} hm=>by
  rcases jdi hm with hm | ⟨h1,rfl⟩
  ·cases hm
  ·obtain ⟨c,hc⟩:=hfree _ h1 rfl;rw [hc];obtain ⟨w,z⟩:=I.cell _ _ hc;exact ⟨rfl,z.lt⟩
 have mem:∀ {y c},cenv.cells.lookup y=some c->(X.env.cells.lookup y=some c/\c < s.heap.objs.size)\/(s.heap.objs.size + 1<=c/\jwf (pushCells (s.heap.push { cls:=.type "dict",data:=.dict #[] }) scope.names) c none):=λ{y c} e=>by
  rw [hcl] at e;rcases jds (PySem.mem_of_lookup e) with hm | ⟨_,h2,h3⟩
  ·exact .inl (cm hm)
  ·rw [Heap.size_push] at h2;exact .inr ⟨h2,h3⟩
 have look:∀ {y},scope.names.lookup y=some .free->∃ c,cenv.cells.lookup y=some c/\X.env.cells.lookup y=some c:=λ{y} hl=>by
  have hy:(y,NameKind.free)∈scope.names:=PySem.mem_of_lookup hl;obtain ⟨c',e'⟩:=jg2 (jfc (names:=scope.names) (n:=(s.heap.push { cls:=.type "dict",data:=.dict #[] }).objs.size) (jfq (cells:=X.env.cells) (acc:=[]) hy));rw [<- hcl] at e';refine ⟨c',e',?_⟩;rw [hcl] at e';rcases jds (PySem.mem_of_lookup e') with hm | ⟨h1,_,_⟩
  ·exact (cm hm).1
  ·have:=ok.uniq _ h1;rw [hl] at this;cases this
 have okB:(X.blk s H scope cenv fp).Ok:=by
  refine ⟨I.ok.mod,by show cenv.scope.kind=_;rw [hsc];exact ok.kind,by show cenv.globals=_;rw [<- hcenv];exact I.ok.glob,by show cenv.builtins=_;rw [<- hcenv];exact I.ok.blt,by show s.heap.objs.size<=cenv.locals;rw [hL];exact Nat.le_refl _,
   λy z c e1 e2=>?_,λy hy=>?_,λy c z e=>?_,I.ok.hd,I.ok.frames,.inl rfl,λb hb=>⟨?_,λy c e z=>?_⟩,I.bs,Nat.le_trans I.ok.bsz I.sz,λb o e hb=>?_,λb hb z=>?_,I.stack,I.stkFree⟩
  ·have e1:cenv.cells.lookup y=some c:=e1;have e2:cenv.cells.lookup z=some c:=e2
   rw [hcl] at e1 e2;refine jh9 (λp hp=>?_) (λy z c a b=>I.ok.inj y z c (cm a).1 (cm b).1) (PySem.mem_of_lookup e1) (PySem.mem_of_lookup e2);rw [Heap.size_push];exact Nat.lt_succ_of_lt (cm (y:=p.1) (c:=p.2) hp).2
  ·show ∃ c,cenv.cells.lookup y=some c;have key:∀ k,cenv.kindOf y=some k->(k = .cell\/k = .free)->∃ c,cenv.cells.lookup y=some c:=λk hk hk'=>by
    unfold Env.kindOf at hk;rw [hsc] at hk;obtain ⟨k',e,r⟩:=jfn hk;have:k' = .cell\/k' = .free:=by
     rcases r with rfl | ⟨rfl,_⟩
     ·exact hk'
     ·exact .inr rfl
    rcases this with rfl | rfl
    ·obtain ⟨c,hm⟩:=jh_ (n:=(s.heap.push { cls:=.type "dict",data:=.dict #[] }).objs.size) (acc:=yr X.env.cells scope.names []) (PySem.mem_of_lookup e);obtain ⟨c',e'⟩:=jg2 hm;exact ⟨c',by rw [hcl];exact e'⟩
    ·obtain ⟨c,h1,_⟩:=look e;exact ⟨c,h1⟩
   rcases hy with hy | hy
   ·exact key _ hy (.inl rfl)
   ·exact key _ hy (.inr rfl)
  ·have z:(scope.names.lookup y == some NameKind.cell)=true:=z;have z:scope.names.lookup y=some .cell:=by simpa using z
   have e:cenv.cells.lookup y=some c:=e;rw [hcl] at e;rcases jds (PySem.mem_of_lookup e) with hm | ⟨_,h2,_⟩
   ·rcases jdi hm with hm | ⟨h1,_⟩
    ·cases hm
    ·have q:=ok.uniq _ h1;rw [z] at q;cases q
   ·rw [Heap.size_push] at h2;exact Nat.le_of_succ_le h2
  ·show b≠cenv.locals;rw [hL];exact Nat.ne_of_lt (hfp b hb).2
  ·have e:cenv.cells.lookup y=some c:=e;rcases mem e with ⟨h1,_⟩ | ⟨h1,_⟩
   ·exact (hfp b hb).1.2.2.2.2.1 y c h1 z
   ·have h2:s.heap.objs.size + 1<=b:=by rw [<- z];exact h1
    exact absurd (Nat.lt_of_lt_of_le (hfp b hb).2 (Nat.le_of_succ_le h2)) (Nat.lt_irrefl _)
  ·rcases (hfp b hb).1.2.2.2.1 with z | z
   ·exact I.ok.noex b o e z
   ·exact absurd (Nat.lt_of_lt_of_le (Heap.lt_size e) (Nat.le_trans I.ok.bsz z)) (Nat.lt_irrefl _)
  ·rcases List.mem_cons.mp (I.stkSub b z) with z | z
   ·exact (hfp b hb).1.2.1 z
   ·exact (hfp b hb).1.2.2.1 z
 refine ⟨okB,rfl,I.bare,Un.kept kp,⟨λ_=>none,?_,λi y av e1 e2 e3=>?_⟩,λy c e=>?_,?_,λy c e=>?_,λp hp=>?_,I.hok.kept kp,by rw [jfd];exact I.len⟩
 ·show Heap.Ns _ cenv.locals _;rw [hL];exact Heap.Ns.keeps (Heap.Ns.new ..) λb o e=>pushCells_keeps _ _ _ _ e
 ·obtain ⟨e2,hne⟩:=jhe e2;have hfr:scope.names.lookup y=some .free/\(cenv.kindOf y=some .cell\/cenv.kindOf y=some .free):=by
   have key:∀ k,cenv.scope.names.lookup y=some k->k = .local\/k = .cell\/k = .free->scope.names.lookup y=some .free/\(cenv.kindOf y=some .cell\/cenv.kindOf y=some .free):=λk hk hk'=>by
    have hk0:=hk;rw [hsc] at hk;obtain ⟨k',e,r⟩:=jfn hk;have no:¬ (k' = .local\/k' = .cell):=λhh=>by
     rcases ok.own _ (PySem.mem_of_lookup e) hh with e' | e'
     ·obtain ⟨p,hp,hpy⟩:=List.mem_map.mp e';have e3:=ok.ix p hp
      have:p.1=y:=hpy;rw [this] at e3;exact hne (List.mem_map.mpr ⟨p,hp,jjl hN e3 e1⟩)
     ·exact e' (List.mem_of_getElem? e1)
    rcases r with rfl | ⟨rfl,rfl⟩
    ·rcases hk' with rfl | rfl | rfl
     ·exact absurd (.inl rfl) no
     ·exact absurd (.inr rfl) no
     ·exact ⟨e,.inr hk0⟩
    ·exact ⟨e,.inl hk0⟩
   have e3:Vis cenv.scope y:=e3;rcases e3 with e3 | e3 | e3
   ·exact key _ e3 (.inl rfl)
   ·exact key _ e3 (.inr (.inl rfl))
   ·exact key _ e3 (.inr (.inr rfl))
  obtain ⟨m,hn,hl⟩:=I.loc;have hvis:Vis X.env.scope y:=(ok.free _ (PySem.mem_of_lookup hfr.1) rfl).elim (λk=>.inr (.inl k)) (λk=>.inr (.inr k))
  obtain ⟨w,r,q⟩:=hl i y av e1 e2 hvis;refine ⟨w,r,.inr ⟨hfr.2,?_⟩⟩;obtain ⟨c,h1,h2⟩:=look hfr.1;rcases q with ⟨k,_⟩ | ⟨_,c',e',z⟩
  ·have k:X.env.scope.names.lookup y=some .local:=k;rcases ok.free _ (PySem.mem_of_lookup hfr.1) rfl with k' | k' <;> rw [show X.env.scope.names.lookup y=_ from k'] at k <;> cases k
  ·rw [h2] at e';cases e';exact ⟨c,h1,z.keeps kp⟩
 ·have e:cenv.cells.lookup y=some c:=e;rcases mem e with ⟨h1,_⟩ | ⟨_,z⟩
  ·obtain ⟨w,z⟩:=I.cell y c h1;exact ⟨w,z.keeps kp⟩
  ·exact ⟨_,z⟩
 ·show H cenv.locals=none;rw [hL];exact I.hok.fresh (Nat.le_refl _)
 ·have e:cenv.cells.lookup y=some c:=e;rcases mem e with ⟨h1,_⟩ | ⟨h1,_⟩
  ·exact I.freeC y c h1
  ·exact I.hok.fresh (Nat.le_of_succ_le h1)
 ·exact absurd (show p∈([]:List (Addr×Obj)) ++ [] from hp) (by simp)
theorem j28{E:Value->Shared->Prop}{D:Addr}{xs:List V}{y:V}{v:Value}{Q:Value->Shared->Prop}(I:Inv X pins σ H s)(hD:H D=some (.lst xs))(hz:xs.length < sizeLine)(r:xm y v)
  (h:∀ s',Inv X pins σ (upd H D (.lst (xs ++ [y]))) s'->Q .none s'):wpAny (model X.prog X.w) X.A (call (.builtin "list.append") [.ref D,v]) Q E s:=by
 obtain ⟨hz',ad,n,ri,e⟩:=I.hok D _ hD;have hl:=ri.length
 refine append_at (hsz:=by rw [List.size_toArray];omega) e λh' sb ho'=>?_;refine h { s with heap:=h' } (I.write (t':=s.toks) (by rw [hD];trivial) (.inl rfl) (λb u hb q=>(sb.2 b hb).trans q) ⟨_,ho'⟩ ⟨by rw [List.length_append];exact hz,ad ++ [v],n + 1,ri.append (.cons r .nil),?_⟩);rw [ho'];simp
def PTs(X:Cx)(ifs:List Expr)(t:TT):Prop :=
 ∀ (pins:List (Addr×Obj)) (s:Shared) (σ:St) (H:Hp) (Q:Bool->Hp->Prop),Inv X pins σ H s->t σ H Q->
  wpAny (model X.prog X.w) X.A (forIn ifs true λc r=>if r=true then do let ok <- isTrue c X.env (eval c X.env);pure (ForInStep.yield ok) else pure (ForInStep.yield r)) (TP X pins σ Q) X.xe s
def jlc:TT:=λ_ H Q=>Q true H
theorem jbo:PTs X [] jlc:=λ_ _ _ H _ I h=>wpAny_tests_nil ⟨H,I,h⟩
theorem jzv{c:Expr}{t:TT}(h:PT X c t):PTs X [c] t:=λpins s σ H Q I hw=>wpAny_tests_one (h pins s σ H Q I hw)
end
theorem jlb{α:Type}{t:Sem α}{Q Q':α->Shared->Prop}{M:Model}{A:Around}{E:Value->Shared->Prop}{s:Shared}(h:wpAny M A t Q (λ_ _=>False) s)(hQ:∀ a s,Q a s->Q' a s):wpAny M A t Q' E s:=wpAny_mono h hQ λ_ _ z=>False.elim z
theorem jo4{prog:Program}{w:World}{A:Around}{R:Result->Shared->Prop}{s:Shared}{elt target iter:Expr}{ifs:List Expr}{scope:Scope}{pos:Pos}{it acc:Value}{env:Env}(I:Nat->Shared->Prop)
  (turn:∀ n s,I n s->wpAny (model prog w) A (pyNext it) (λr s₁=>match r with
   | none=>R (.ok .next) s₁
   | some v=>wpAny (model prog w) A (letOwnedTupleGo target it v) (λ_ s₁'=>wpAny (model prog w) A (assign target env v) (λ_ s₂ =>
     wpAny (model prog w) A (forIn ifs true λc r=>if r=true then do let ok <- isTrue c env (eval c env);pure (ForInStep.yield ok) else pure (ForInStep.yield r)) (λok s₃ =>
      if ok=true then wpAny (model prog w) A (eval elt env) (λx s₄ =>
       wpAny (model prog w) A (call (.builtin "list.append") [acc,x]) (λ_ s₅=>∃ m,m < n/\I m s₅) (notedBy (model prog w) A env λe s'=>R (.error e) s') s₄) (notedBy (model prog w) A env λe s'=>R (.error e) s') s₃
      else ∃ m,m < n/\I m s₃) (notedBy (model prog w) A env λe s'=>R (.error e) s') s₂) (notedBy (model prog w) A env λe s'=>R (.error e) s') s₁') (notedBy (model prog w) A env λe s'=>R (.error e) s') s₁) (notedBy (model prog w) A env λe s'=>R (.error e) s') s)
  (n:Nat) (h:I n s) :
  codeAny (model prog w) A (.compLoop (.ListComp elt [⟨target,iter,ifs,0⟩] scope pos) 0 it acc env) R s:=by
 refine codeAny_loop rfl I (λn s hI=>?_) n h;show wpAny _ A ((compTurn (.ListComp elt [⟨target,iter,ifs,0⟩] scope pos) 0 it acc env).onRaise (λx=>do noteFrame x env;theTreesLotGoes x)) _ _ s
 refine wpAny_noted ?_;rw [compTurn_list];refine wpAny_bind (wpAny_standAt (wpAny_bind (wpAny_mono (turn n s hI) (λr s₁ h₁=>?_) λ_ _ h'=>h')));cases r with
 | none=>exact wpAny_pure h₁
 | some v =>
  refine wpAny_bind (wpAny_mono h₁ (λ_ s₁' h₁'=>?_) λ_ _ h'=>h');refine wpAny_bind (wpAny_mono h₁' (λ_ s₂ h₂=>wpAny_bind (wpAny_mono h₂ (λok s₃ h₃=>?_) λ_ _ h'=>h')) λ_ _ h'=>h');cases ok with
  | false=>exact wpAny_pure ⟨rfl,h₃⟩
  | true =>
   exact wpAny_bind (wpAny_bind (wpAny_mono h₃ (λx s₄ h₄=>wpAny_bind (wpAny_mono h₄ (λ_ s₅ h₅=>wpAny_pure (wpAny_pure ⟨rfl,h₅⟩)) λ_ _ h'=>h')) λ_ _ h'=>h'))
section
variable{X:Cx}
def tLc(wi:TI)(g:TG)(tt:TT)(te:TE)(vs:List Nat):TE:=λσ H Q=>wi σ H λJ H1=>∀ D,H1 D=none->∃ W:Nat->Nat->Hp->Prop,(∃ m,W 0 m (upd H1 D (.lst [])))/\∀ i m H,W i m H->
 (J.stop i H/\Q (.ref D) H)\/(J.go i H/\∃ Nx:Hp->Prop,(∀ H',Nx H'->∃ m',m' < m/\W (i + 1) m' H')/\∀ x H',J.yld i H x H'->g x (zw σ vs) H' λσ2 H2=>zw σ2 vs=zw σ vs/\tt σ2 H2 λb H3 =>
  if b=true then te σ2 H3 λy H4=>∃ acc,H4 D=some (.lst acc)/\acc.length < sizeLine/\Nx (upd H4 D (.lst (acc ++ [y]))) else Nx H3)
theorem jq0{pins:List (Addr×Obj)}{s:Shared}{σ:St}{H:Hp}{Q:VK}{elt tg iter:Expr}{ifs:List Expr}{scope:Scope}{own:List (Str×Nat)}{pos pos':Pos}{wi:TI}{g:TG}{tt:TT}{te:TE}{use:Option (Value->Sem Unit)}{Qf:Value->Shared->Prop}
  (hc:X.calm=true) (hN:X.N.Nodup) (I:Inv X pins σ H s) (hi:PI X tg iter wi) (ok:ja8 X.N X.env.scope scope own)
  (hg:∀ (s:Shared) (H:Hp) (C:Addr) (cl:List (Str×Addr)) (fp:List Addr),PG (X.blk s H scope (compEnvC scope cl C X.env) fp) tg g) (ht:∀ (s:Shared) (H:Hp) (C:Addr) (cl:List (Str×Addr)) (fp:List Addr),PTs (X.blk s H scope (compEnvC scope cl C X.env) fp) ifs tt)
  (he:∀ (s:Shared) (H:Hp) (C:Addr) (cl:List (Str×Addr)) (fp:List Addr),PE (X.blk s H scope (compEnvC scope cl C X.env) fp) elt te) (hs:∀ x,foldedSetIterable iter X.env x=pure x)
  (h:tLc wi g tt te (own.map (·.2)) σ H Q)
  (hRR:∀ D C s' m H',Inv X pins σ H' s'->Q (.ref D) H'->s'.heap.Ns C m->jd1 X pins H' C->compPost (model X.prog X.w) X.A X.xe use Qf (.ref D) C (.ok .next) s') :
  wpAny (model X.prog X.w) X.A (comprehension (.ListComp elt [⟨tg,iter,ifs,0⟩] scope pos) scope X.env pos' (newList []) false (eval iter X.env) use) Qf X.xe s:=by
 have hfree:∀ y∈scope.names,y.2 = .free->∃ c,X.env.cells.lookup y.1=some c:=λy hy e=>by
  rcases ok.free y hy e with k | k
  ·exact I.ok.has _ (.inl k)
  ·exact I.ok.has _ (.inr k)
 refine wpAny_comprehension_free (use:=use) rfl hs (jtc hfree) ok.kind (λy hy e=>by rw [ok.uniq y hy,e])
  (thn (hi pins s σ H _ I h) λxv s1 hx=>thn hx λitv s2 h2=>?_)
 obtain ⟨it,fp,tn,J,H2,e,I2,T,st2,f2,q⟩:=h2;subst e;refine wpAny_newObj_type (jpq ?_) (by show 0<=sizeLine;decide);generalize hD:s2.heap.objs.size=D;have hDn:H2 D=none:=I2.hok.fresh (Nat.le_of_eq hD)
 obtain ⟨W,⟨m0,w0⟩,turn⟩:=q D hDn;generalize hs3:({ s2 with heap:=s2.heap.push { cls:=.type "list",data:=.seq ([]:List Value).toArray } }:Shared)=s3;have I3:Inv X pins σ (upd H2 D (.lst [])) s3:=by
  rw [<- hs3];refine I2.laid (t':=s2.toks) (λb o e=>Heap.get?_push_of_some _ e) (Nat.le_of_eq hD) ⟨Nat.zero_le _,[],0,.nil,?_⟩;rw [<- hD];exact Heap.get?_push_size _ rfl
 have h3:s3.heap=s2.heap.push { cls:=.type "list",data:=.seq ([]:List Value).toArray }:=by rw [<- hs3]
 have sz:∀ b∈fp,b < s2.heap.objs.size:=λb hb=>by
  obtain ⟨o,e,_⟩:=T.obj _ _ st2 b hb;exact Heap.lt_size e
 have f3:∀ b∈fp,jd1 X pins (upd H2 D (.lst [])) b/\b < s3.heap.objs.size:=λb hb=>by
  have am:=sz b hb;refine ⟨⟨?_,(f2 b hb).2⟩,by rw [h3,Heap.size_push];exact Nat.lt_succ_of_lt am⟩;rw [jm (by rw [<- hD];exact Nat.ne_of_lt am)];exact (f2 b hb).1
 have st3:tn 0 s3.heap:=T.keep _ _ _ st2 λb _ o e=>by rw [h3];exact Heap.get?_push_of_some _ e
 have I4:=jp6 I3 ok hN f3;have pg:=hg s3 (upd H2 D (.lst [])) s3.heap.objs.size (cellsFrom (s3.heap.objs.size + 1) scope.names (yr X.env.cells scope.names [])) fp
 have pt:=ht s3 (upd H2 D (.lst [])) s3.heap.objs.size (cellsFrom (s3.heap.objs.size + 1) scope.names (yr X.env.cells scope.names [])) fp;have pe:=he s3 (upd H2 D (.lst [])) s3.heap.objs.size (cellsFrom (s3.heap.objs.size + 1) scope.names (yr X.env.cells scope.names [])) fp
 show codeAny _ _ (.compStart (.ListComp elt [⟨tg,iter,ifs,0⟩] scope pos) 0 (.ref it) (.ref D) (compEnvC scope (cellsFrom (s3.heap.objs.size + 1) scope.names (yr X.env.cells scope.names [])) s3.heap.objs.size X.env)) (compPost (model X.prog X.w) X.A X.xe use Qf (.ref D) s3.heap.objs.size) { s3 with heap:=pushCells (s3.heap.push { cls:=.type "dict",data:=.dict #[] }) scope.names };have nfp:∀ b∈fp,(upd H2 D (.lst [])) b=none:=λb hb=>(f3 b hb).1.1
 generalize hce:compEnvC scope (cellsFrom (s3.heap.objs.size + 1) scope.names (yr X.env.cells scope.names [])) s3.heap.objs.size X.env=ce at I4 pg pt pe ⊢;have cL:ce.locals=s3.heap.objs.size:=by subst hce;rfl
 generalize hH3:upd H2 D (.lst [])=H3 at I3 I4 pg pt pe w0 nfp f3;generalize hs4:({ s3 with heap:=pushCells (s3.heap.push { cls:=.type "dict",data:=.dict #[] }) scope.names }:Shared)=s4 at I4 ⊢;have st4:tn 0 s4.heap:=T.keep _ _ _ st3 λb _ o e=>by rw [<- hs4];exact pushCells_keeps _ _ _ _ (Heap.get?_push_of_some _ e)
 have stat:∀ {σ':St} {H':Hp} {s':Shared},Inv (X.blk s3 H3 scope ce fp) [] σ' H' s'->(∀ b∈fp,H' b=none)->∀ b∈fp,jd1 (X.blk s3 H3 scope ce fp) [] H' b:=λ{σ' H' s'} I' hn b hb =>
  ⟨hn b hb,(I'.ok.exf b hb).1,I'.ok.exfs b hb,.inl hb,λx c e=>(I'.ok.exf b hb).2 x c e,λp hp=>absurd (show p∈([]:List (Addr×Obj)) ++ [] from hp) (by simp)⟩
 have loop:codeAny (model X.prog X.w) X.A (.compLoop (.ListComp elt [⟨tg,iter,ifs,0⟩] scope pos) 0 (.ref it) (.ref D) ce) (compPost (model X.prog X.w) X.A X.xe use Qf (.ref D) s3.heap.objs.size) s4:=by
  refine jo4 (λn s'=>∃ i H',Inv (X.blk s3 H3 scope ce fp) [] (zw σ (own.map (·.2))) H' s'/\tn i s'.heap/\(∀ b∈fp,H' b=none)/\W i n H') ?_ m0 ⟨0,H3,I4,st4,nfp,w0⟩;rintro n s5 ⟨i,H5,I5,st5,n5,w5⟩;rcases turn i n H5 w5 with ⟨stop,qq⟩ | ⟨go,Nx,hNx,step⟩
  ·have td:=T.done (X.blk s3 H3 scope ce fp) rfl rfl rfl hc i [] s5 _ H5 (λ_ _=>False) I5 (stat I5 n5) st5 stop;refine jlb td λr s6 ⟨hr,I6⟩=>?_;subst hr;have I7:Inv X pins σ H5 s6:=I3.call' (ch:=fp) I6.os I6.base I6.hok I6.bare λb hb=>⟨(f3 b hb).1.2.2.2.1,(f3 b hb).1.2.1,(f3 b hb).1.2.2.2.2.1,(f3 b hb).1.2.2.2.2.2⟩
   have nC:H5 s3.heap.objs.size=none:=by
    have z:H5 ce.locals=none:=I6.free;rw [cL] at z;exact z
   obtain ⟨m,hn,_⟩:=I6.loc;have hn:s6.heap.Ns ce.locals m:=hn
   rw [cL] at hn;exact hRR D s3.heap.objs.size s6 m H5 I7 qq hn (I3.fpOk (Nat.le_refl _) nC)
  ·have ti:=T.item (X.blk s3 H3 scope ce fp) rfl rfl rfl hc i [] s5 _ H5 (λ_ _=>False) I5 (stat I5 n5) st5 go;refine jlb ti λr s6 ⟨u,hr,h6⟩=>?_;subst hr;refine jlb h6 λ_ s7 ⟨x,H7,I7,r7,y7,st7,n7⟩=>?_;have I7':=I7.pinned (stat I7 n7) (T.obj _ _ st7)
   refine jlb (pg _ s7 _ H7 x u _ I7' r7 (step x H7 y7)) λ_ s8 ⟨σ8,H8,I8,hw8,q8⟩=>?_;refine jlb (pt _ s8 σ8 H8 _ I8 q8) λb s9 ⟨H9,I9,q9⟩=>?_;have fin:∀ {s':Shared} {H':Hp},Inv (X.blk s3 H3 scope ce fp) ([] ++ jhx fp s7.heap) σ8 H' s'->Nx H'->∃ m,m < n/\∃ i H',Inv (X.blk s3 H3 scope ce fp) [] (zw σ (own.map (·.2))) H' s'/\tn i s'.heap/\(∀ b∈fp,H' b=none)/\W i m H':=λ{s' H'} I' nx=>by
    obtain ⟨m',hm,w'⟩:=hNx H' nx;have pin':∀ b∈fp,∀ o,s7.heap.get? b=some o->s'.heap.get? b=some o/\H' b=none:=λb hb o e =>
     let z:=I'.pin (b,o) (List.mem_append_right _ (List.mem_append_right _ (jg1 hb e)))
     ⟨z.1,z.2.1⟩
    have hl:(zw σ (own.map (·.2))).length=σ8.length:=by rw [<- hw8,jfd]
    refine ⟨m',hm,i + 1,H',(I'.unpinned (pins:=[])).weak hl (λj v e=>?_),T.keep _ _ _ st7 λb hb o e=>(pin' b hb o e).1,λb hb=>?_,w'⟩
    ·rw [<- hw8] at e;exact (jhe e).1
    ·obtain ⟨o,e,_⟩:=T.obj _ _ st7 b hb;exact (pin' b hb o e).2
   cases b with
   | false =>
    simp only [Bool.false_eq_true,if_false] at q9 ⊢;exact fin I9 q9
   | true =>
    simp only [if_true] at q9 ⊢;refine jlb (pe _ s9 σ8 H9 _ I9 q9) λz s10 ⟨yv,H10,I10,r10,acc,hD10,hz10,nx⟩=>?_;exact j28 (X:=X.blk s3 H3 scope ce fp) I10 hD10 hz10 r10 λs11 I11=>fin I11 nx
 exact codeAny_compStart_list loop (T.self X.A 0 _ _ _ st4 loop)
theorem jd_{elt tg iter:Expr}{ifs:List Expr}{scope:Scope}{own:List (Str×Nat)}{pos:Pos}{wi:TI}{g:TG}{tt:TT}{te:TE}(hc:X.calm=true)(hN:X.N.Nodup)(hi:PI X tg iter wi)(ok:ja8 X.N X.env.scope scope own)
  (hg:∀ (s:Shared) (H:Hp) (C:Addr) (cl:List (Str×Addr)) (fp:List Addr),PG (X.blk s H scope (compEnvC scope cl C X.env) fp) tg g) (ht:∀ (s:Shared) (H:Hp) (C:Addr) (cl:List (Str×Addr)) (fp:List Addr),PTs (X.blk s H scope (compEnvC scope cl C X.env) fp) ifs tt)
  (he:∀ (s:Shared) (H:Hp) (C:Addr) (cl:List (Str×Addr)) (fp:List Addr),PE (X.blk s H scope (compEnvC scope cl C X.env) fp) elt te) (hs:∀ x,foldedSetIterable iter X.env x=pure x:=by intro _;rfl) :
  PE X (.ListComp elt [⟨tg,iter,ifs,0⟩] scope pos) (tLc wi g tt te (own.map (·.2))):=by
 intro pins s σ H Q I h;rw [eval_ListComp];refine jq0 hc hN I hi ok hg ht he hs h λD C s' m H' I' q hn f=>⟨m,hn,λh'' sb=>?_⟩
 obtain ⟨f0,f1,f2,f3,f4,f5⟩:=f;exact ⟨.ref D,H',I'.turned (t':=s'.toks) (λb o hb e=>(sb.2 b hb).trans e) f0 f1 f3 f4 f5,rfl,q⟩
theorem jw3{i:Nat}{y:Str}{py:Pos}{elt tg iter:Expr}{ifs:List Expr}{scope:Scope}{own:List (Str×Nat)}{pos spos:Pos}{wi:TI}{g:TG}{tt:TT}{te:TE}(hc:X.calm=true)(hN:X.N.Nodup)(hy:X.N[i]? = some y)(hyl:X.env.scope.names.lookup y=some .local)
  (hsw:swapsWith (.ListComp elt [⟨tg,iter,ifs,0⟩] scope pos) (some (.Name y py)) spos.line X.env=pure true) (hi:PI X tg iter wi) (ok:ja8 X.N X.env.scope scope own)
  (hg:∀ (s:Shared) (H:Hp) (C:Addr) (cl:List (Str×Addr)) (fp:List Addr),PG (X.blk s H scope (compEnvC scope cl C X.env) fp) tg g) (ht:∀ (s:Shared) (H:Hp) (C:Addr) (cl:List (Str×Addr)) (fp:List Addr),PTs (X.blk s H scope (compEnvC scope cl C X.env) fp) ifs tt)
  (he:∀ (s:Shared) (H:Hp) (C:Addr) (cl:List (Str×Addr)) (fp:List Addr),PE (X.blk s H scope (compEnvC scope cl C X.env) fp) elt te) (hs:∀ x,foldedSetIterable iter X.env x=pure x:=by intro _;rfl) :
  PS X (.Assign [.Name y py] (.ListComp elt [⟨tg,iter,ifs,0⟩] scope pos) spos) (ji8 (tLc wi g tt te (own.map (·.2))) (ja7 i)):=by
 intro pins s σ H D I h;rw [exec_Assign_Name_used _ _ _ _ hsw];refine wpAny_bind (wpAny_standAt (wpAny_bind ?_));show wpAny _ X.A (do let _ <- comprehension (.ListComp elt [⟨tg,iter,ifs,0⟩] scope pos) scope X.env (firstIterPos [⟨tg,iter,ifs,0⟩] pos) (newList []) false (eval iter X.env) (some (assign (.Name y py) X.env))) _ _ s
 have h:tLc wi g tt te (own.map (·.2)) σ H (λx H1=>ja7 i x σ H1 D.nx):=h;refine wpAny_bind (thn (jq0 (Qf:=λ_ s'=>SP X pins D .next s') hc hN I hi ok hg ht he hs h λL C s' m H' I' q hn f=>?_) λ_ s' hq=>wpAny_pure (wpAny_pure hq));show wpAny _ _ (assign (.Name y py) X.env (.ref L)) _ _ _
 refine wpAny_assign_Name (jl4 (v:=V.ref L) I' hN hy (.inl hyl) rfl (λs2 I2 ⟨a,sb,ha⟩=>?_) (.inr hyl));obtain ⟨f0,f1,f2,f3,f4,f5⟩:=f;have haC:C≠a:=by
  rcases ha with z | z
  ·rw [z];exact f1
  ·exact λe=>f4 y a z e.symm
 refine ⟨m,hn.sameBut sb haC,λh3 sb3=>?_⟩;exact ⟨_,H',I2.turned (t':=s2.toks) (λb o hb e=>(sb3.2 b hb).trans e) f0 f1 f3 f4 f5,q⟩
end
section
variable{κ:Type}[DecidableEq κ]
def zf(ae:List (κ×V))(k:κ):Option V:=(ae.find? λkv=>decide (kv.1=k)).map (·.2)
theorem ja9{p:κ×V}{r:List (κ×V)}{k:κ}(e:p.1=k):zf (p::r) k=some p.2:=by simp [zf,List.find?_cons,e]
theorem zx{p:κ×V}{r:List (κ×V)}{k:κ}(e:¬ p.1=k):zf (p::r) k=zf r k:=by simp [zf,List.find?_cons,e]
theorem vw.isSome_eq{o:Option V}{u:Option Value}(r:vw o u):o.isSome=u.isSome:=by
 cases o with
 | none=>cases u with
  | none=>rfl
  | some _=>exact (show False from r).elim
 | some _=>cases u with
  | none=>exact (show False from r).elim
  | some _=>rfl
theorem vw.getD{o:Option V}{u:Option Value}{d:V}{d':Value}(r:vw o u)(rd:xm d d'):xm (o.getD d) (u.getD d'):=by
 cases o with
 | none=>cases u with
  | none=>exact rd
  | some _=>exact (show False from r).elim
 | some _=>cases u with
  | none=>exact (show False from r).elim
  | some _=>exact r
end
theorem jks{P:Program}{w:World}{k:Key}{u:Value}(r:xm (kV k) u):(yq P w).is k u=true:=by
 cases k with
 | inl i=>obtain ⟨t,e⟩:=(show ∃ t,u=Value.int i t from r);subst e;exact jps P w i t
 | inr x=>obtain ⟨t,e⟩:=(show ∃ t,u=Value.str x t from r);subst e;exact jpr P w x t
theorem jmr{P:Program}{w:World}:∀ {ks:List Key} {us:List Value},qw (ks.map kV) us->ItemsAre (yq P w) ks us
 | [],_,r=>by rw [List.map_nil] at r;cases r;exact .nil
 | k::ks,_,r=>by
  rw [List.map_cons] at r;cases r with
  | cons h t=>exact .cons (jks h) (jmr t)
section
variable{P:Program}{w:World}{H:Hp}{h:Heap}{a:Addr}
theorem jvi{ks:List Key}(ok:HOk P w H h)(e:H a=some (.tup (ks.map kV))):(tupleKind (yq P w)).is h ks a:=by
 obtain ⟨_,ad,r,o,h1,h2,n,h3⟩:=(show y_ P w H h a (.tup (ks.map kV)) from ok a _ e)
 exact ⟨o,ad.toArray,n,h1,h2,h3,by simpa using jmr r⟩
end
def jyp(i:Expr):Prop:=∀ ov iv,subscripted i false ov iv=operate [ov,iv] (getItem ov iv)
theorem jqb{prog:Program}{w:World}{A:Around}{E:Value->Shared->Prop}{s:Shared}{env:Env}{value slice:Expr}{pos:Pos}{T id:String}{Q:Value->Shared->Prop}
  (hl:typeLookup (.type T) "__getitem__"=pure (some (.builtin id))) (hs:jyp slice)
  (h:wpAny (model prog w) A (eval value env) (λo s₁=>wpAny (model prog w) A (eval slice env) (λi s₂=>s₂.TypeIs o T/\wpAny (model prog w) A (getItem o i) Q E s₂) E s₁) E s) :
  wpAny (model prog w) A (eval (.Subscript value slice pos) env) Q E s:=by
 refine Subscript_ (wpAny_mono h (λo s₁ h₁=>wpAny_mono h₁ (λi s₂ h₂=>?_) λ_ _ x=>x) λ_ _ x=>x);obtain ⟨hT,h₂⟩:=h₂;unfold subscriptTail;refine wpAny_bind ?_;rw [getitemInPython_of_ne hT.not_modules];refine wpAny_bind (wpAny_specialOf hT hl ?_);have fin:wpAny (model prog w) A (subscripted slice false o i) (λr s₃=>wpAny (model prog w) A (letTemporaryGo value o r >>= λ_=>pure r) Q E s₃) E s₂:=by
  rw [hs o i];exact wpAny_operating (wpAny_mono h₂ (λr s₃ h₃=>wpAny_bind (wpAny_letTemporaryGo (wpAny_pure h₃))) λ_ _ x=>x)
 first
  | exact wpAny_pure (wpAny_bind fin)
  | exact wpAny_bind (wpAny_pure (wpAny_bind fin))
  | exact wpAny_bind fin
structure M2(X:Cx)(o:Expr)(m:Str)(apos:Pos)(e f:Expr)(cpos:Pos):Prop where
 base:attributeBase o m X.env (eval o X.env)=eval o X.env
 few:((backTo cpos (starEach [e,f] X.env)).all (λx => !x.1) && (backToKw cpos (keywordEach [] X.env)).all (λx=>x.1.isSome)
  && decide (([e,f]:List Expr).length + ([]:List Keyword).length + (if ([]:List Keyword).isEmpty then 0 else 1) < 30))=true
 line:(apos.endLine == cpos.line)=true
 trees:backTo cpos (starEach [e,f] X.env)=[(false,eval e X.env),(false,eval f X.env)]
section
variable{X:Cx}{pins:List (Addr×Obj)}{σ:St}{H:Hp}{s:Shared}{h':Heap}
theorem Inv.turnedL{t':Nat}{ch:List Addr}(I:Inv X pins σ H s)(k:∀ b o,b∉ch->s.heap.get? b=some o->h'.get? b=some o)(hf:∀ b∈ch,jd1 X pins H b):Inv X pins σ H { s with heap:=h',toks:=t' }:=by
 have nit:∀ b u,H b=some u->b∉ch:=λb u e z=>by
  have q:=(hf b z).1;rw [q] at e;cases e
 refine I.step (g':=s.gens) (d':=s.drawn) (ch:=ch) (λb hb=>⟨(hf b hb).2.2.2.1,(hf b hb).2.1,(hf b hb).2.2.2.2.1,(hf b hb).2.2.2.2.2⟩) (λb o _ _ hc e _=>k b o hc e) (λb o _ _ hc e _=>⟨o.slots,k b o hc e⟩)
  (λ_ _ _ _ n=>n) (λb o hc e=>⟨o,k b o hc e⟩) (λ_ _ e=>e) (λ_ _ _ e=>e) (λb ps e=>⟨#[],by rw [e];simp⟩) (λm hm=>?_) (λb u e=>?_) I.bare
 ·obtain ⟨o,es,ep,ho,r⟩:=hm;exact ⟨o,es,ep,k _ o (λz=>(hf _ z).2.1 rfl) ho,r⟩
 ·refine (I.hok b u e).stay (λc v hc q=>k c v ?_ q) (λ_ q=>q) λ_ _ q=>q;rcases hc with z | z
  ·rw [z];exact nit b u e
  ·exact nit c _ z
theorem Inv.turnedNew{t':Nat}{ch:List Addr}{T:Addr}{ob:HO}(I:Inv X pins σ H s)(k:∀ b o,b∉ch->s.heap.get? b=some o->h'.get? b=some o)(hf:∀ b∈ch,jd1 X pins H b)(hT:s.heap.objs.size<=T)
  (new:y_ X.prog X.w (upd H T ob) h' T ob):Inv X pins σ (upd H T ob) { s with heap:=h',toks:=t' }:=by
 have hn:H T=none:=I.hok.fresh hT;have nit:∀ b u,H b=some u->b∉ch:=λb u e z=>by
  have q:=(hf b z).1;rw [q] at e;cases e
 refine I.step (g':=s.gens) (d':=s.drawn) (ch:=ch) (λb hb=>⟨(hf b hb).2.2.2.1,(hf b hb).2.1,(hf b hb).2.2.2.2.1,(hf b hb).2.2.2.2.2⟩) (λb o _ _ hc e _=>k b o hc e) (λb o _ _ hc e _=>⟨o.slots,k b o hc e⟩)
  (λb o _ e n=>?_) (λb o hc e=>⟨o,k b o hc e⟩) (λb xs e=>?_) (λb o u e=>?_) (λb ps e=>⟨#[],?_⟩) (λm hm=>?_) (λb u e=>?_) I.bare
 ·rw [jm (Nat.ne_of_lt (Nat.lt_of_lt_of_le (Heap.lt_size e) hT))];exact n
 ·rw [jm (qu e hn)];exact e
 ·rw [jm (qu e hn)];exact e
 ·rw [jm (qu e hn),e];simp
 ·obtain ⟨o,es,ep,ho,r⟩:=hm;exact ⟨o,es,ep,k _ o (λz=>(hf _ z).2.1 rfl) ho,r⟩
 ·by_cases hb:b=T
  ·subst hb;rw [jd] at e;cases e;exact new
  ·rw [jm hb] at e;refine (I.hok b u e).stay (λc v hc q=>k c v ?_ q) (λc q=>by rw [jm (qu q hn)];exact q) λc xs q=>by rw [jm (qu q hn)];exact q
   rcases hc with z | z
   ·rw [z];exact nit b u e
   ·exact nit c _ z
end
section
variable{X:Cx}
theorem jur{tg:Expr}{pins:List (Addr×Obj)}{σ:St}{H:Hp}{s:Shared}{R:It->Hp->Prop}{J:It}{tn:Nat->Heap->Prop}{tk:Nat}(I:Inv X pins σ H s)(o:Obj)
  (T:jjt X.prog X.w X.K tg J [s.heap.objs.size] s.heap.objs.size tn) (st:tn 0 (s.heap.push o)) (q:R J H):PIE X pins σ tg R (.ref s.heap.objs.size) { s with heap:=s.heap.push o,toks:=tk }:=by
 refine ⟨s.heap.objs.size,[s.heap.objs.size],tn,J,H,rfl,I.kept λb ob e=>Heap.get?_push_of_some _ e,T,st,λb hb=>?_,q⟩;have e:b=s.heap.objs.size:=by simpa using hb
 subst e;exact I.fpOk (Nat.le_refl _) (I.hok.fresh (Nat.le_refl _))
end
def Its(x:Str):It:=⟨λi _=>i < x.cps.size,λi H v H'=>H'=H/\∃ c,x.cps[i]? = some c/\v = .str ⟨#[c]⟩,λi _=>x.cps.size<=i⟩
theorem jng{P:Program}{w:World}{K:W.Frag}{tg:Expr}(it:Addr)(x:Str)(t:Tok)(ty:String)(hty:ty = "str_ascii_iterator"\/ty = "str_iterator") :
  jjt P w K tg (Its x) [it] it (λi h=>h.IsStrIter it ty x t i) where
 mem:=by simp
 obj:=λi h st b hb=>by
  have e:b=it:=by simpa using hb
  subst e;obtain ⟨o,e,c,d⟩:=st;exact ⟨o,e,λv z=>by rw [d] at z;cases z⟩
 keep:=λi h h' st k=>let ⟨o,ho,r⟩:=st;⟨o,k it (by simp) o ho,r⟩
 item:=by
  intro X hP hw hK hc i pins s σ H E I hf st hg;subst hP hw hK;obtain ⟨f0,f1,f2,f3,f4,f5⟩:=hf it (by simp);have W:Walks X.prog X.w X.A it [it] [it] x.cps.size (SignAt x) (λi h=>h.IsStrIter it ty x t i):=by
   rcases hty with e | e
   ·rw [e];exact Walks.strAscii (I.ok.hd hc) it x t
   ·rw [e];exact Walks.strWide (I.ok.hd hc) it x t
  have hno:["enumerate", "zip", "dict_itemiterator", "dict_reverseitemiterator", "odict_iterator", "itertools.zip_longest", "itertools.pairwise"].contains ty=false:=by
   rcases hty with e | e
   ·rw [e];decide
   ·rw [e];decide
  refine W.item i s _ _ hg st λv h' tk hv st' kk=>?_;obtain ⟨c,u,hcx,rfl⟩:=hv;have I1:Inv X pins σ H { s with heap:=h',toks:=tk }:=I.turned (λb o hb e=>kk b o (by simpa using hb) e) f0 f1 f3 f4 f5
  obtain ⟨oi,e,cc,dd⟩:=id st';exact ⟨_,rfl,js0 (s:={ s with heap:=h',toks:=tk }) e cc dd hno ⟨.str ⟨#[c]⟩,H,I1,⟨u,rfl⟩,⟨rfl,c,hcx,rfl⟩,st',λb hb=>(hf b hb).1⟩⟩
 done:=by
  intro X hP hw hK hc i pins s σ H E I hf st hg;subst hP hw hK;obtain ⟨f0,f1,f2,f3,f4,f5⟩:=hf it (by simp);have hx:x.cps[i]? = none:=Array.getElem?_eq_none hg
  rcases hty with e | e
  ·rw [e] at st;exact wpAny_pyNext_ascii_end (I.ok.hd hc) st hx λh' eb=>⟨rfl,I.turned (t':=s.toks) (λb o hb e=>eb b o hb e) f0 f1 f3 f4 f5⟩
  ·rw [e] at st;exact wpAny_pyNext_wide_end (I.ok.hd hc) st hx λh' eb=>⟨rfl,I.turned (t':=s.toks) (λb o hb e=>eb b o hb e) f0 f1 f3 f4 f5⟩
 self:=λA i s Q E st h=>by
  rcases hty with e | e
  ·rw [e] at st;exact wpAny_pyIter_striter_ascii st h
  ·rw [e] at st;exact wpAny_pyIter_striter_wide st h
def j4z(te:TE):TI:=λσ H R=>te σ H λv H1=>∃ x,v = .str x/\R (Its x) H1
theorem j2b{X:Cx}{tg e:Expr}{te:TE}(he:PE X e te):PI X tg e (j4z te):=by
 intro pins s σ H R I h;refine thn (he pins s σ H _ I h) λv s1 ⟨y,H1,I1,r1,x,ex,q⟩=>?_;subst ex;obtain ⟨t,rfl⟩:=r1;cases ha:x.cps.all (· < 128)
 ·exact wpAny_pyIter_wide ha (jur (tk:=s1.toks) I1 _ (jng _ x t "str_iterator" (.inr rfl)) ⟨_,Heap.get?_push_size _ rfl,rfl,rfl⟩ q)
 ·exact wpAny_pyIter_ascii ha (jur (tk:=s1.toks) I1 _ (jng _ x t "str_ascii_iterator" (.inl rfl)) ⟨_,Heap.get?_push_size _ rfl,rfl,rfl⟩ q)
def Ite(K:W.Frag)(a:Addr):It :=
 ⟨λi H=>∃ (xs:List V) (x:V),az K H a xs/\xs[i]? = some x,λi H v H'=>∃ T x,v = .ref T/\H T=none/\H'=upd H T (.tup [.int (i:Nat),x])/\∀ xs,az K H a xs->xs[i]? = some x,λi H=>∃ xs:List V,az K H a xs/\xs.length<=i⟩
theorem jtq{P:Program}{w:World}{K:W.Frag}{elts:List Expr}{kk:Nat}{tpos:Pos}(a e it:Addr) :
  jjt P w K (.Tuple elts kk tpos) (Ite K a) [e,it] e (λi h=>(∃ old,IsEnum h e it ((i:Nat):Int) old)/\h.IsListIter it a i/\e≠it) where
 mem:=by simp
 obj:=λi h st b hb=>by
  obtain ⟨⟨old,he⟩,⟨o,ho,hc,hd⟩,_⟩:=st;have e':b=e\/b=it:=by simpa using hb
  rcases e' with z | z
  ·rw [z];exact ⟨_,he,λv q=>nomatch q⟩
  ·rw [z];exact ⟨o,ho,λv q=>by rw [hd] at q;cases q⟩
 keep:=λi h h' st k=>let ⟨⟨old,he⟩,hi,hne⟩:=st;⟨⟨old,k e (by simp) _ he⟩,hi.at λo q=>k it (by simp) o q,hne⟩
 item:=by
  intro X hP hw hK hc i pins s σ H E I hf st hg;subst hP hw hK;obtain ⟨⟨old,he⟩,hit,hne⟩:=st;obtain ⟨xs,x,hq,hx⟩:=hg;obtain ⟨ad,rv,p,hz⟩:=I.list hq;obtain ⟨u,hu,ru⟩:=rv.get hx;have hel:e < s.heap.objs.size:=Heap.lt_size he
  have hil:it < s.heap.objs.size:=by obtain ⟨_,q,_⟩:=hit;exact Heap.lt_size q
  refine wpAny_pyNext_enum_item he hit p.isList (x:=u) (by simpa using hu) hne λh' ho hit' hT hsz hk=>?_;refine ⟨_,rfl,wpAny_letOwnedTupleGo_enum (s:={ s with heap:=h',toks:=s.toks + 1 }) ho λh'' he' sb=>?_⟩;have hT2:h''.get? s.heap.objs.size=some { cls:=.type "tuple",data:=.seq #[.int i s.toks,u] }:=(sb.2 _ (Nat.ne_of_gt hel)).trans hT
  have new:y_ X.prog X.w (upd H s.heap.objs.size (.tup [.int (i:Nat),x])) h'' s.heap.objs.size (.tup [.int (i:Nat),x]) :=
   ⟨by show 2<=sizeLine;decide,[.int i s.toks,u],.cons ⟨_,rfl⟩ (.cons ru .nil),⟨_,hT2,rfl,_,rfl⟩⟩
  have I1:Inv X pins σ (upd H s.heap.objs.size (.tup [.int (i:Nat),x])) { s with heap:=h'',toks:=s.toks + 1 } :=
   I.turnedNew (ch:=[e,it]) (λb ob hb q=>(sb.2 b (λz=>hb (by simp [z]))).trans (hk b ob (λz=>hb (by simp [z])) (λz=>hb (by simp [z])) q)) hf (Nat.le_refl _) new
  refine ⟨.ref s.heap.objs.size,_,I1,rfl,⟨_,x,rfl,I.hok.fresh (Nat.le_refl _),rfl,λys hy=>by rw [I.list_inj hy hq];exact hx⟩,⟨⟨u,?_⟩,hit'.at λo q=>(sb.2 it (Ne.symm hne)).trans q,hne⟩,λb hb=>?_⟩
  ·have e1:((i + 1:Nat):Int)=(i:Int) + 1:=by omega
   rw [e1];exact he'
  ·have hb':b < s.heap.objs.size:=by
    have e':b=e\/b=it:=by simpa using hb
    rcases e' with z | z
    ·rw [z];exact hel
    ·rw [z];exact hil
   rw [jm (Nat.ne_of_lt hb')];exact (hf b hb).1
 done:=by
  intro X hP hw hK hc i pins s σ H E I hf st hg;subst hP hw hK;obtain ⟨⟨old,he⟩,hit,hne⟩:=st;obtain ⟨xs,hq,hx⟩:=hg;obtain ⟨ad,rv,p,hz⟩:=I.list hq;obtain ⟨f0,f1,f2,f3,f4,f5⟩:=hf it (by simp);have hl:=rv.length
  exact wpAny_pyNext_enum_end (I.ok.hd hc) he hit p.isList (by simp;omega) λh' eb=>⟨rfl,I.turned (t':=s.toks) (λb o hb q=>eb b o hb q) f0 f1 f3 f4 f5⟩
 self:=λA i s Q E st h=>let ⟨⟨_,he⟩,_⟩:=st;wpAny_pyIter_enum he h
def j33(K:W.Frag)(ta:TA):TI:=λσ H R=>ta σ H λvs H1=>∃ a xs,vs=[.ref a]/\az K H1 a xs/\R (Ite K a) H1
theorem jqs{X:Cx}{e:Expr}{ta:TA}{p pos tpos:Pos}{elts:List Expr}{kk:Nat}(hg:Gl X "enumerate")(hm:X.mg "enumerate"=none)(ha:PA X [e] ta)(hs:starEach [e] X.env=[(false,eval e X.env)]:=by rfl) :
  PI X (.Tuple elts kk tpos) (.Call (.Name "enumerate" p) [e] [] pos) (j33 X.K ta):=by
 intro pins s σ H R I h;refine Call_ (jh2 I hg hm boot_enumerate (PyProof.Rows.callWith_type1 (thn (ha pos pins s σ H _ I h) λus s1 ⟨vs,H1,I1,r1,q1⟩=>?_) hs rfl));obtain ⟨a,xs,ex,hq,q⟩:=q1;subst ex;cases r1 with
 | cons r rr =>
  cases rr;cases r;obtain ⟨ad,rv,p',hz⟩:=I1.list hq;refine call_enumerate_list p'.isList λh' he hit hsz hk=>wpAny_pyIter_enum he ?_;have I2:Inv X pins σ H1 { s1 with heap:=h' }:=I1.kept (t':=s1.toks) hk
  refine ⟨s1.heap.objs.size + 1,[s1.heap.objs.size + 1,s1.heap.objs.size],_,_,H1,rfl,I2,jtq a (s1.heap.objs.size + 1) s1.heap.objs.size,⟨⟨.none,he⟩,hit,Nat.succ_ne_self _⟩,λb hb=>?_,q⟩;have e':b=s1.heap.objs.size + 1\/b=s1.heap.objs.size:=by simpa using hb
  have hle:s1.heap.objs.size<=b:=by
   rcases e' with z | z
   ·rw [z];exact Nat.le_add_right _ _
   ·rw [z];exact Nat.le_refl _
  exact I1.fpOk hle (I1.hok.fresh hle)
theorem jv3:bootBuiltins "zip"=some (.type "zip"):=by decide +kernel
def Itz(K:W.Frag)(a b:Addr):It :=
 ⟨λi H=>∃ (xs ys:List V) (x y:V),az K H a xs/\az K H b ys/\xs[i]? = some x/\ys[i]? = some y,
  λi H v H'=>∃ T x y,v = .ref T/\H T=none/\H'=upd H T (.tup [x,y])/\(∀ xs,az K H a xs->xs[i]? = some x)/\∀ ys,az K H b ys->ys[i]? = some y,
  λi H=>∃ xs ys:List V,az K H a xs/\az K H b ys/\(xs.length<=i\/ys.length<=i)⟩
theorem jwh{P:Program}{w:World}{K:W.Frag}{elts:List Expr}{kk:Nat}{tpos:Pos}{a b z TI TO i1 i2:Addr}(D:ZipApart z TI TO i1 i2 a b) :
  jjt P w K (.Tuple elts kk tpos) (Itz K a b) [z,TI,TO,i1,i2] z (λi h=>IsZip h z TI TO .none/\IsPair h TI (.ref i1) (.ref i2)/\(∃ x y,IsPair h TO x y)/\h.IsListIter i1 a i/\h.IsListIter i2 b i) where
 mem:=by simp
 obj:=λi h st c hc=>by
  obtain ⟨hz,hTI,⟨x,y,hTO⟩,⟨o1,e1,_,d1⟩,⟨o2,e2,_,d2⟩⟩:=st;have e':c=z\/c=TI\/c=TO\/c=i1\/c=i2:=by simpa using hc
  rcases e' with q | q | q | q | q
  ·rw [q];exact ⟨_,hz,λv q=>nomatch q⟩
  ·rw [q];exact ⟨_,hTI,λv q=>nomatch q⟩
  ·rw [q];exact ⟨_,hTO,λv q=>nomatch q⟩
  ·rw [q];exact ⟨o1,e1,λv q=>by rw [d1] at q;cases q⟩
  ·rw [q];exact ⟨o2,e2,λv q=>by rw [d2] at q;cases q⟩
 keep:=λi h h' st k=>by
  obtain ⟨hz,hTI,⟨x,y,hTO⟩,h1,h2⟩:=st;exact ⟨k z (by simp) _ hz,k TI (by simp) _ hTI,⟨x,y,k TO (by simp) _ hTO⟩,h1.at λo q=>k i1 (by simp) o q,h2.at λo q=>k i2 (by simp) o q⟩
 item:=by
  intro X hP hw hK hc i pins s σ H E I hf st hg;subst hP hw hK;obtain ⟨hz,hTI,⟨x0,y0,hTO⟩,h1,h2⟩:=st;obtain ⟨xs,ys,x,y,hqx,hqy,hx,hy⟩:=hg;obtain ⟨ad,rv,p,_⟩:=I.list hqx;obtain ⟨its2,rv2,p2,_⟩:=I.list hqy;obtain ⟨u,hu,ru⟩:=rv.get hx;obtain ⟨u2,hu2,ru2⟩:=rv2.get hy;have hzl:z < s.heap.objs.size:=Heap.lt_size hz
  refine wpAny_pyNext_zip_item D hz hTI hTO h1 h2 p.isList p2.isList (x:=u) (y:=u2) (by simpa using hu) (by simpa using hu2) λh' z' TO' h1' h2' hT hsz hk=>?_;refine ⟨_,rfl,wpAny_letOwnedTupleGo_zip (s:={ s with heap:=h' }) z' λh'' z'' sb=>?_⟩;have hT2:h''.get? s.heap.objs.size=some { cls:=.type "tuple",data:=.seq #[u,u2] }:=(sb.2 _ (Nat.ne_of_gt hzl)).trans hT
  have new:y_ X.prog X.w (upd H s.heap.objs.size (.tup [x,y])) h'' s.heap.objs.size (.tup [x,y]) :=
   ⟨by show 2<=sizeLine;decide,[u,u2],.cons ru (.cons ru2 .nil),⟨_,hT2,rfl,_,rfl⟩⟩
  have I1:Inv X pins σ (upd H s.heap.objs.size (.tup [x,y])) { s with heap:=h'' } :=
   I.turnedNew (t':=s.toks) (ch:=[z,TI,TO,i1,i2]) (λc o hb q=>(sb.2 c (λq'=>hb (by simp [q']))).trans (hk c o (λq'=>hb (by simp [q'])) (λq'=>hb (by simp [q'])) (λq'=>hb (by simp [q'])) (λq'=>hb (by simp [q'])) q)) hf (Nat.le_refl _) new
  refine ⟨.ref s.heap.objs.size,_,I1,rfl,⟨_,x,y,rfl,I.hok.fresh (Nat.le_refl _),rfl,λl hl=>by rw [I.list_inj hl hqx];exact hx,λl hl=>by rw [I.list_inj hl hqy];exact hy⟩,⟨z'',?_,⟨u,u2,?_⟩,?_,?_⟩,λc hcm=>?_⟩
  ·exact (sb.2 _ D.TIz).trans (hk _ _ D.TIz D.TITO D.TIi1 D.TIi2 hTI)
  ·exact (sb.2 _ D.TOz).trans TO'
  ·exact h1'.at λo q=>(sb.2 _ D.i1z).trans q
  ·exact h2'.at λo q=>(sb.2 _ D.i2z).trans q
  ·have am:c < s.heap.objs.size:=by
    have e':c=z\/c=TI\/c=TO\/c=i1\/c=i2:=by simpa using hcm
    rcases e' with q | q | q | q | q
    ·rw [q];exact hzl
    ·rw [q];exact Heap.lt_size hTI
    ·rw [q];exact Heap.lt_size hTO
    ·rw [q];obtain ⟨_,e1,_⟩:=h1;exact Heap.lt_size e1
    ·rw [q];obtain ⟨_,e2,_⟩:=h2;exact Heap.lt_size e2
   rw [jm (Nat.ne_of_lt am)];exact (hf c hcm).1
 done:=by
  intro X hP hw hK hc i pins s σ H E I hf st hg;subst hP hw hK;obtain ⟨hz,hTI,⟨x0,y0,hTO⟩,h1,h2⟩:=st;obtain ⟨xs,ys,hqx,hqy,hend⟩:=hg;obtain ⟨ad,rv,p,_⟩:=I.list hqx;obtain ⟨its2,rv2,p2,_⟩:=I.list hqy;have l1:=rv.length
  have l2:=rv2.length;have he:ad.toArray[i]? = none\/its2.toArray[i]? = none:=by
   rcases hend with q | q
   ·exact .inl (by simp;omega)
   ·exact .inr (by simp;omega)
  exact wpAny_pyNext_zip_end (I.ok.hd hc) D hz hTI hTO h1 h2 p.isList p2.isList he λh' hk=>⟨rfl,I.turnedL (t':=s.toks) (ch:=[z,TI,TO,i1,i2]) (λc o hb q =>
   hk c o (λq'=>hb (by simp [q'])) (λq'=>hb (by simp [q'])) (λq'=>hb (by simp [q'])) (λq'=>hb (by simp [q'])) q) hf⟩
 self:=λA i s Q E st h=>wpAny_pyIter_zip st.1 h
def j4x(K:W.Frag)(ta:TA):TI:=λσ H R=>ta σ H λvs H1=>∃ a b xs ys,vs=[.ref a,.ref b]/\az K H1 a xs/\az K H1 b ys/\R (Itz K a b) H1
theorem j1_{X:Cx}{e e2:Expr}{ta:TA}{p pos tpos:Pos}{elts:List Expr}{kk:Nat}(hg:Gl X "zip")(hm:X.mg "zip"=none)(ha:PA X [e,e2] ta)
  (hs:starEach [e,e2] X.env=(false,eval e X.env)::starEach [e2] X.env:=by rfl) (hpl:(backTo pos (starEach [e2] X.env)).any (·.1)=false:=by rfl) :
  PI X (.Tuple elts kk tpos) (.Call (.Name "zip" p) [e,e2] [] pos) (j4x X.K ta):=by
 intro pins s σ H R I h;refine Call_ (jh2 I hg hm jv3 (PyProof.Rows.callWith_type1 (thn (ha pos pins s σ H _ I h) λus s1 ⟨vs,H1,I1,r1,q1⟩=>?_) hs hpl));obtain ⟨a,b,xs,ys,ex,hqx,hqy,q⟩:=q1;subst ex;cases r1 with
 | cons r rr =>
  cases rr with
  | cons r' rr =>
   cases rr;cases r;cases r';obtain ⟨ad,rv,p1,_⟩:=I1.list hqx;obtain ⟨its2,rv2,p2,_⟩:=I1.list hqy;have la:a < s1.heap.objs.size:=p1.lt
   have lb:b < s1.heap.objs.size:=p2.lt;refine call_zip_2 p1.isList p2.isList λh' hz hTI hTO h1 h2 hsz hk=>wpAny_pyIter_zip hz ?_;have I2:Inv X pins σ H1 { s1 with heap:=h' }:=I1.kept (t':=s1.toks) hk
   refine ⟨s1.heap.objs.size + 4,[s1.heap.objs.size + 4,s1.heap.objs.size + 2,s1.heap.objs.size + 3,s1.heap.objs.size,s1.heap.objs.size + 1],_,_,H1,rfl,I2,jwh (PySem.W.ktu_apart s1.heap.objs.size a b la lb),⟨hz,hTI,⟨_,_,hTO⟩,h1,h2⟩,λc hcm=>?_,q⟩;have e':c=s1.heap.objs.size + 4\/c=s1.heap.objs.size + 2\/c=s1.heap.objs.size + 3\/c=s1.heap.objs.size\/c=s1.heap.objs.size + 1:=by simpa using hcm
   have hle:s1.heap.objs.size<=c:=by
    rcases e' with z | z | z | z | z
    ·rw [z];exact Nat.le_add_right _ _
    ·rw [z];exact Nat.le_add_right _ _
    ·rw [z];exact Nat.le_add_right _ _
    ·rw [z];exact Nat.le_refl _
    ·rw [z];exact Nat.le_add_right _ _
   exact I1.fpOk hle (I1.hok.fresh hle)
end L2
section
namespace Bits
open PySem PyProof.Rows
end Bits
end
section
namespace TL
open PySem PySem.Builtin PySem.Builtin.Str PySem.StrLaws
end TL
end
namespace L2
open PySem PySem.Spec PyProof.Rows
section
variable{X:Cx}
end
end L2
namespace Att
open PySem PySem.W PySem.Calls PyProof.Rows
section
variable{prog:Program}{w:World}{A:Around}{E:Value->Shared->Prop}{s:Shared}{K:Frag}
end
end Att
namespace L2
open PySem PySem.Spec PyProof.Rows
def ja0(s:Stmt)(j:Nat):Stmt:=match s with
 | .ClassDef _ _ _ body _ _ _ _ _ _ _=>body.getD j (.Pass ⟨0,0,0,0⟩)
 | _=>.Pass ⟨0,0,0,0⟩
def wv(s:Stmt):Arguments:=match s with
 | .FunctionDef _ a _ _ _ _ _ _ _ _=>a
 | _=>{ posonlyargs:=[],args:=[],vararg:=none,kwonlyargs:=[],kw_defaults:=[],kwarg:=none,defaults:=[] }
def z9(s:Stmt):List Stmt:=match s with
 | .FunctionDef _ _ b _ _ _ _ _ _ _=>b
 | _=>[]
def jj(s:Stmt):Scope:=match s with
 | .FunctionDef _ _ _ _ _ _ sc _ _ _=>sc
 | _=>{ kind:=.function,names:=[],isGenerator:=false,isCoroutine:=false }
structure Fun(K:W.Frag)(x qual:Str)(st:Stmt)(f:Addr)(fd:FuncData):Prop where
 ex:∃ (oc:Value) (od:Option Addr) (kV doc pm:Value) (an:Option Addr) (ac ct:Value) (osl:Array (Option Value)),
  fd=PySem.W.fnOf x qual (wv st) (z9 st) (jj st) .none kV doc pm an ac ct/\K.lookup f=some ⟨oc,od,.func fd,osl⟩/\PySem.W.codeIn K ac qual=true
 kp:PySem.W.keepIn K (.ref f)=true
section
variable{P:Program}{w:World}{K:W.Frag}{mg:Str->Option Value}{base:Heap}
theorem Fun.binds{x qual:Str}{st:Stmt}{f:Addr}{fd:FuncData}{ps:List Str}(F:Fun K x qual st f fd)
  (h:∀ (kV doc pm:Value) (an:Option Addr) (ac ct:Value) (us:List Value),us.length=ps.length->bindArgs (PySem.W.fnOf x qual (wv st) (z9 st) (jj st) .none kV doc pm an ac ct) ⟨us,[]⟩=pure (ps.zip us)):zl K fd ps []:=by
 obtain ⟨oc,od,kV,doc,pm,an,ac,ct,osl,rfl,lk,hcd⟩:=F.ex;exact .all (h kV doc pm an ac ct)
theorem jf6{x qual:Str}{st:Stmt}{f:Addr}{oc:Value}{od an:Option Addr}{osl:Array (Option Value)}{kV doc pm ac ct:Value}(l:K.lookup f=some ⟨oc,od,.func (PySem.W.fnOf x qual (wv st) (z9 st) (jj st) .none kV doc pm an ac ct),osl⟩)
  (c:PySem.W.codeIn K ac qual=true) (k:PySem.W.keepIn K (.ref f)=true):Fun K x qual st f (PySem.W.fnOf x qual (wv st) (z9 st) (jj st) .none kV doc pm an ac ct):=⟨⟨oc,od,kV,doc,pm,an,ac,ct,osl,rfl,l,c⟩,k⟩
end
theorem j34{A:Around}{k:Nat}(hr:xw k A):A.units + 1 < cLine:=Nat.lt_of_le_of_lt (Nat.add_le_add_left (by decide:1<=64) _) hr.units
section
variable{X:Cx}
theorem pv(i:Nat){x:Str}{pos:Pos}(hN:X.N[i]? = some x:=by rfl)(hv:Vis X.env.scope x:=by first | exact Or.inl rfl | exact Or.inr (Or.inl rfl) | exact Or.inr (Or.inr rfl))(hd:(x == ("__debug__":Str))=false:=by decide)
  (hcd:(x == ("__classdict__":Str))=false:=by decide):PE X (.Name x pos) (qy i):=j2c hN hv hd hcd
end
theorem qd{c A B:Prop}[Decidable c](h1:c->A)(h2:¬ c->B):if c then A else B:=by
 by_cases h:c
 ·rw [if_pos h];exact h1 h
 ·rw [if_neg h];exact h2 h
def jg(H H':Hp):Prop:=∀ b o,H b=some o->H' b=some o
theorem jg.refl(H:Hp):jg H H:=λ_ _ h=>h
theorem jg.trans{H H1 H2:Hp}(a:jg H H1)(b:jg H1 H2):jg H H2:=λc o h=>b c o (a c o h)
theorem jg.seq{K:W.Frag}{H H':Hp}{a:Addr}{xs:List V}(e:jg H H')(h:az K H a xs):az K H' a xs:=by
 rcases h with (h | ⟨o,h⟩) | h
 ·exact .inl (.inl (e _ _ h))
 ·exact .inl (.inr ⟨o,e _ _ h⟩)
 ·exact .inr h
theorem jg.made{H H1:Hp}{x dx C:Addr}(nx:H x=Option.none)(nd:H dx=Option.none)(k:∀ b o,(upd (upd H dx (.own x)) x (.ins C dx [])) b=some o->b≠x->H1 b=some o):jg H H1:=λb o e =>
 k b o (by rw [jm (qu e nx),jm (qu e nd)];exact e) (qu e nx)
end L2
end
section
set_option autoImplicit false
namespace CX
open PySem
abbrev frm(l:List Env):List Addr:=l.filterMap (·.frame)
structure Air(h:Heap)(x T:Addr)(C:Value)(dx:Option Addr)(fl:Value):Prop where
 obj:∃ o vs,h.get? x=some o/\o.cls=C/\o.dict=dx/\o.data = .fields vs/\vs[1]? = some (.ref T)
 ne:T≠x
 tb:∃ o ts,h.get? T=some o/\o.data = .fields ts/\ts[3]? = some fl
structure jyq(l:List Env)(x:Addr)(head:Value)(h h':Heap):Prop where
 keep:∀ b o,b≠x->head≠.ref b->b∉frm l->h.get? b=some o->h'.get? b=some o
 slot:∀ b o,b∈frm l->h.get? b=some o->∃ sl,h'.get? b=some { o with slots:=sl }
 there:∀ b o,h.get? b=some o->∃ o',h'.get? b=some o'
theorem jx_(o:Obj)(f:Array Value->Array Value):(o.mapFields f).dict=o.dict:=by
 obtain ⟨c,d,dt,sl⟩:=o;cases dt <;> rfl
section
variable{M:Model}{A:Around}{E:Value->Shared->Prop}{s:Shared}{base:Heap}{env:Env}{outer:List Env}{L x:Addr}{o:Obj}{vs:Array Value}{head:Value}{Q:Unit->Shared->Prop}
theorem jo0{had:Bool}(hfr:A.frames=some (env::outer))(hl:s.heap.FunFrames base (env::outer))(hf:env.frame=some L)(hx:s.heap.get? x=some o)(hd:o.data = .fields vs)(hz:1 < vs.size)
  (h:∀ h' T,s.heap.objs.size<=T->jyq (env::outer) x .none s.heap h'->Air h' x T o.cls o.dict (rawInt L)->Q () { s with heap:=h' }) :
  wpAny M A (do let a <- frameOf env;let pl <- entryPlaceOf L had;let y <- EntryCells.newEntry head a .none (rawInt L) .none pl;setField (.ref x) 1 y) Q E s:=by
 have xn:x∉frm (env::outer):=λhm=>by
  obtain ⟨_,u,hu,hv⟩:=hl.mem hm;rw [hx] at hu;cases hu;exact hv vs hd
 refine wpAny_bind (wpAny_frameOf_fun hfr hl hf λg1 so=>?_);refine wpAny_bind (wpAny_entryPlaceOf λpl hp=>?_);unfold EntryCells.newEntry newFields;refine wpAny_bind (wpAny_newObj_type ?_ (hp.sizeOk5 _ _ _ _ _));have hx1:g1.get? x=some o:=(so.2.1 x xn).trans hx
 generalize hob:({ cls:=.type "traceback",dict:=none,data:=.fields ([head,.ref L,.none,rawInt L,.none] ++ (if pl.isEmpty then List.replicate 6 Value.none else pl)).toArray }:Obj)=tb;have hfree:tb.isFreed=false:=by subst hob;rfl
 have hx2:=Heap.get?_push_of_some (h:=g1) tb hx1;have hT2:(g1.push tb).get? g1.objs.size=some tb:=Heap.get?_push_size g1 hfree
 have nTx:g1.objs.size≠x:=Nat.ne_of_gt (Heap.lt_size hx1);refine wpAny_setField hx2 hd hz ?_;have hd3:=Obj.data_mapFields hd (·.setIfInBounds 1 (Value.ref g1.objs.size))
 refine h _ g1.objs.size ?_ ⟨λb u hb _ hbf hbu=>?_,λb u hbf hbu=>?_,λb u hbu=>?_⟩ ⟨⟨_,_,Heap.get?_update_self _ hx2 (Obj.isFreed_of_fields hd3),Obj.cls_mapFields _ _,jx_ _ _,hd3,?_⟩,nTx,tb,_,?_,by subst hob;rfl,?_⟩
 ·rw [so.1];exact Nat.le_refl _
 ·rw [Heap.get?_update_other _ _ (Ne.symm hb)];exact Heap.get?_push_of_some _ ((so.2.1 b hbf).trans hbu)
 ·obtain ⟨sl,e⟩:=so.2.2 b u hbu;have hb:b≠x:=λz=>xn (z▸hbf)
  exact ⟨sl,by rw [Heap.get?_update_other _ _ (Ne.symm hb)];exact Heap.get?_push_of_some _ e⟩
 ·obtain ⟨sl,e⟩:=so.2.2 b u hbu;by_cases hb:b=x
  ·subst hb;exact ⟨_,Heap.get?_update_self _ hx2 (Obj.isFreed_of_fields hd3)⟩
  ·exact ⟨_,by rw [Heap.get?_update_other _ _ (Ne.symm hb)];exact Heap.get?_push_of_some _ e⟩
 ·simp [hz]
 ·rw [Heap.get?_update_other _ _ (Ne.symm nTx)];exact hT2
 ·first
   | rfl
   | (rcases hp with rfl | ⟨_,_,_,_,_,_,_,rfl⟩ <;> simp)
theorem jqw(hfr:A.frames=some (env::outer))(hl:s.heap.FunFrames base (env::outer))(hf:env.frame=some L)(hx:s.heap.get? x=some o)(hd:o.data = .fields vs)(h1:vs[1]? = some head)
  (hh:head = .none\/∃ T u ts,head = .ref T/\T≠x/\s.heap.get? T=some u/\u.data = .fields ts/\ts[3]? = some .none)
  (h:∀ h' T,s.heap.objs.size<=T->jyq (env::outer) x head s.heap h'->Air h' x T o.cls o.dict (rawInt L)->Q () { s with heap:=h' }):wpAny M A (noteFrame (.ref x) env) Q E s:=by
 have hz:1 < vs.size:=(Array.getElem?_eq_some_iff.mp h1).1;unfold noteFrame;simp only [hf];refine wpAny_bind (wpAny_field hx hd h1 ?_);rcases hh with rfl | ⟨T,u,ts,rfl,nT,hT,hdT,h3⟩
 ·rw [if_neg (by decide)];exact jo0 hfr hl hf hx hd hz λh' T a b c=>h h' T a ⟨λq r i1 _ i3 i4=>b.keep q r i1 (by simp) i3 i4,b.slot,b.there⟩ c
 ·rw [if_pos (by simp)];refine wpAny_bind (wpAny_field hT hdT h3 ?_);rw [if_neg (by simp [rawInt])];refine wpAny_bind (wpAny_setField hT hdT (Array.getElem?_eq_some_iff.mp h3).1 ?_);have ot:∀ b,b≠T->(s.heap.update T (Obj.mapFields (·.setIfInBounds 3 Value.none))).get? b=s.heap.get? b:=λb hb=>Heap.get?_update_other _ _ (Ne.symm hb)
  have nf:∀ b q,s.heap.get? b=some q->(∀ ws,q.data≠.fields ws)->b≠T:=λb q hb hq z=>by
   rw [z,hT] at hb;cases hb;exact hq ts hdT
  have hl2:=hl.of_keeps (h':=s.heap.update T (Obj.mapFields (·.setIfInBounds 3 Value.none))) λb q hb hq=>⟨q,(ot b (nf b q hb hq)).trans hb,rfl⟩
  refine jo0 (s:={ s with heap:=s.heap.update T (Obj.mapFields (·.setIfInBounds 3 Value.none)) }) hfr hl2 hf ((ot x (Ne.symm nT)).trans hx) hd hz λh' T' a b c=>h h' T' ?_ ⟨λq r i1 i2 i3 i4=>?_,λq r i1 i2=>?_,λq r i1=>?_⟩ c
  ·have a':(s.heap.update T (Obj.mapFields (·.setIfInBounds 3 Value.none))).objs.size<=T':=a
   rwa [Heap.size_after_update] at a'
  ·have nq:q≠T:=λz=>i2 (by rw [z]);exact b.keep q r i1 (by simp) i3 ((ot q nq).trans i4)
  ·obtain ⟨_,r',hr',hv⟩:=hl.mem i1;rw [i2] at hr';cases hr';exact b.slot q r i1 ((ot q (nf q r i2 hv)).trans i2)
  ·by_cases hq:q=T
   ·subst hq;exact b.there q _ (Heap.get?_update_self (Obj.mapFields (·.setIfInBounds 3 Value.none)) hT (Obj.isFreed_of_fields (Obj.data_mapFields hdT _)))
   ·exact b.there q r ((ot q hq).trans i1)
theorem jg8{T:Addr}{C:Value}{dx:Option Addr}{fl:Value}(a:Air s.heap x T C dx fl)
  (h:∀ h',(∀ b u,b≠T->s.heap.get? b=some u->h'.get? b=some u)->Air h' x T C dx .none->Q () { s with heap:=h' }):wpAny M A (setFlight (.ref x) none) Q E s:=by
 obtain ⟨⟨o,vs,hx,hc,hdx,hd,h1⟩,nT,u,ts,hT,hdT,h3⟩:=a;have hz:3 < ts.size:=(Array.getElem?_eq_some_iff.mp h3).1
 unfold setFlight;refine wpAny_bind (wpAny_field hx hd h1 ?_);rw [if_pos (by simp)];refine wpAny_setField hT hdT hz (h _ (λb q hb hq=>?_) ⟨⟨o,vs,?_,hc,hdx,hd,h1⟩,nT,_,_,Heap.get?_update_self _ hT (Obj.isFreed_of_fields (Obj.data_mapFields hdT _)),Obj.data_mapFields hdT _,by simp [hz]⟩)
 ·rw [Heap.get?_update_other _ _ (Ne.symm hb)];exact hq
 ·rw [Heap.get?_update_other _ _ nT];exact hx
theorem jx2(hfr:A.frames=some (env::outer))(hl:s.heap.FunFrames base (env::outer))(hf:env.frame=some L)(hx:s.heap.get? x=some o)(hd:o.data = .fields vs)(h1:vs[1]? = some head)
  (hh:head = .none\/∃ T u ts,head = .ref T/\T≠x/\s.heap.get? T=some u/\u.data = .fields ts/\ts[3]? = some .none)
  (h:∀ h' T,s.heap.objs.size<=T->jyq (env::outer) x head s.heap h'->Air h' x T o.cls o.dict .none->Q () { s with heap:=h' }):wpAny M A (leaving env (.ref x)) Q E s:=by
 unfold leaving;refine wpAny_bind (jqw hfr hl hf hx hd h1 hh λh1 T a b c=>?_);refine jg8 (s:={ s with heap:=h1 }) c λh2 k c2=>h h2 T a ⟨λq r i1 i2 i3 i4=>?_,λq r i1 i2=>?_,λq r i1=>?_⟩ c2
 ·exact k q r (λz=>absurd (Nat.lt_of_lt_of_le (Heap.lt_size i4) (z▸a)) (Nat.lt_irrefl _)) (b.keep q r i1 i2 i3 i4)
 ·obtain ⟨sl,e⟩:=b.slot q r i1 i2;exact ⟨sl,k q _ (λz=>absurd (Nat.lt_of_lt_of_le (Heap.lt_size i2) (z▸a)) (Nat.lt_irrefl _)) e⟩
 ·obtain ⟨u,e⟩:=b.there q r i1;exact ⟨u,k q u (λz=>absurd (Nat.lt_of_lt_of_le (Heap.lt_size i1) (z▸a)) (Nat.lt_irrefl _)) e⟩
end
end CX
end
section
set_option autoImplicit false
set_option maxRecDepth 100000
namespace CX
open PySem Builtin Builtin.ObjectAttr
section
variable{prog:Program}{w:World}{A:Around}{E:Value->Shared->Prop}{h:Heap}{g:Array GenState}{d:Drawn}{t:Nat}{os:OsState}
variable{nm qn:Str}{C N x:Addr}{bs bm:List Value}{sn:List Str}{sub:List Value}{ab:Bool}{col:Option Bool}{dd:Option Addr}{c0 c1 c2 c3 c5:Option Value}{B newId sa owner:String}
 {mN mA:Str->Option Value} {name:Str} {v:Value} {o:Obj}
structure jza(h h':Heap)(x:Addr)(o:Obj)(name:Str)(v:Value):Prop where
 obj:h'.get? x=some { o with dict:=some h.objs.size }
 ns:h'.Ns1 h.objs.size (λy=>if y=name then some v else none)
 keep:∀ b u,b≠x->h.get? b=some u->h'.get? b=some u
theorem jp0{tk:Tok}{Q:Fin->Shared->Prop}(SF:StoreFacts B bm sa owner)(cls:h.get? C=some (excClassObj nm qn C N bs bm true sn sub ab col dd c0 c1 c2 c3 c5 newId))(hn:h.Ns N mN)(hna:mN name=none)
  (hB:typeLookup (.type B) name=pure none) (hx:h.get? x=some o) (hc:o.cls = .ref C) (hnc:∀ y,o.data≠.cls y) (hdn:o.dict=none)
  (hq:∀ h' tk',jza h h' x o name v->Q (.done (.ret .none)) ⟨h',g,d,tk',os⟩) :
  wpAny (model prog w) A (Builtin.«object.__setattr__» ⟨[.ref x,.str name tk,v],[]⟩) Q E ⟨h,g,d,t,os⟩:=by
 have pas:=SF.passes (.ref x);unfold Builtin.«object.__setattr__»
 repeat (first
  | rw [refuse_eq]
  | (rw [refuseLoop_ref,pas])
  | (with_reducible refine wpAny_loadPart_at hx ?_
     rw [hc])
  | with_reducible refine wpAny_mroOf_exc cls ?_
  | (with_reducible refine wpAny_typeLookup_exc cls hn SF.mro hB ?_
     rw [hna])
  | wp_step)
 rw [hdn,if_neg (by simp [typeHasDict])];split
 ·rename_i q;cases q
 split
 ·rename_i y q;exact absurd q (hnc y)
 have hx1:(h.push { cls:=.type "dict",data:=.dict #[] }).get? x=some o:=Heap.get?_push_of_some _ hx;have nx:x≠h.objs.size:=Nat.ne_of_lt (Heap.lt_size hx)
 refine wpAny_bind (wpAny_alloc' ?_);refine wpAny_bind (wpAny_update' hx1 ?_);refine wpAny_pure ?_;have free:({ o with dict:=some h.objs.size }:Obj).isFreed=false:=by
  have z:=(Heap.get?_some_iff.mp hx).2;obtain ⟨oc,od,odt,osl⟩:=o;cases odt <;> first | rfl | exact z
 have gd:=(Heap.get?_update_other (h.push { cls:=.type "dict",data:=.dict #[] }) (λu=>{ cls:=u.cls,dict:=some h.objs.size,data:=u.data,slots:=u.slots }) nx).trans (Heap.get?_push_at (h:=h) (o:={ cls:=.type "dict",data:=.dict #[] }) rfl rfl);have gx:=Heap.get?_update_self (λu=>{ cls:=u.cls,dict:=some h.objs.size,data:=u.data,slots:=u.slots }) hx1 free
 have nd:((h.push { cls:=.type "dict",data:=.dict #[] }).update x λu=>{ cls:=u.cls,dict:=some h.objs.size,data:=u.data,slots:=u.slots }).Ns h.objs.size (λ_=>none) :=
  ⟨_,#[],_,gd,rfl,λe he=>absurd he (by simp),λ_=>rfl⟩
 show wpAny _ _ (storeInDict h.objs.size (.str name tk) name v) _ _ _;unfold storeInDict newKeyGuard;refine wpAny_bind (wpAny_pure (wpAny_bind (wpAny_nsSet1 (Heap.Ns1.of_empty nd) λh2 n2 sb=>?_)));obtain ⟨oD,eD,pD,hoD,hdD,hcD⟩:=n2.count (Within.cons name v Within.nil);refine wpAny_bind (wpAny_lookBehind hoD (by rw [hdD];exact pastItsLine_dict (Nat.le_trans hcD (by rw [List.length_cons,List.length_nil,sizeLine_eq];omega))) ?_)
 wp_walk
 refine hq h2 _ ⟨(sb.2 x nx).trans gx,n2,λb u hb e=>?_⟩;exact (sb.2 b (Nat.ne_of_lt (Heap.lt_size e))).trans ((Heap.get?_update_ne _ _ _ _ hb).trans (Heap.get?_push_of_some _ e))
theorem js1{Q:Unit->Shared->Prop}(SF:StoreFacts B bm sa owner)(cls:h.get? C=some (excClassObj nm qn C N bs bm true sn sub ab col dd c0 c1 c2 c3 c5 newId))(hn:h.Ns N mN)(hns:mN "__setattr__"=none)
  (hna:mN name=none) (hB:typeLookup (.type B) name=pure none) (hx:h.get? x=some o) (hc:o.cls = .ref C) (hnc:∀ y,o.data≠.cls y) (hdn:o.dict=none)
  (hq:∀ h' tk',jza h h' x o name v->Q () ⟨h',g,d,tk',os⟩):wpAny (model prog w) A (setAttr (.ref x) name v) Q E ⟨h,g,d,t,os⟩:=by
 have bd:=SF.slot.bind (.ref x);unfold setAttr callSpecial? specialOf
 repeat (any_goals (first
  | assumption
  | (with_reducible refine wpAny_loadPart_at hx ?_
     rw [hc])
  | (with_reducible refine wpAny_typeLookup_exc cls hn SF.mro SF.slot.lookup ?_
     rw [hns])
  | wp_step))
 refine codeAny_call_builtin SF.slot.plain SF.entry (wpAny_check_sa SF cls hx hc (jp0 SF cls hn hna hB hx hc hnc hdn λh2 t2 f=>?_))
 repeat (any_goals (first | assumption | wp_step))
 exact hq h2 t2 f
end
end CX
end
section
set_option maxRecDepth 100000
namespace L2
open PySem PySem.Spec PyProof.Rows
def CXF(P:Program)(w:World):CXT:=λouter H s E e s' =>
 ∃ (x T:Addr) (C:Value) (dx:Addr) (H':Hp),e = .ref x/\s'.os=s.os/\AllBare s'.gens/\Un (frs outer) [] H H' s.heap s'.heap/\HOk P w H' s'.heap/\s.heap.get? x=none/\s.heap.get? T=none/\H' x=none/\H' T=none/\
  CX.Air s'.heap x T C (some dx) .none/\E C (some dx) H'
theorem jmp{X:Cx}{pins:List (Addr×Obj)}{σ:St}{H:Hp}{s:Shared}{E:XK}{E':Value->Shared->Prop}{x dx:Addr}{o:Obj}{vs:Array Value}{head:Value}
  (I:Inv X pins σ H s) (hst:X.stack=X.env::X.outer) (hf:X.env.frame=some X.env.locals) (hex:X.ex=[]) (hx:s.heap.get? x=some o) (hd:o.data = .fields vs) (h1:vs[1]? = some head) (hdx:o.dict=some dx)
  (hh:head = .none\/∃ T u ts,head = .ref T/\T≠x/\s.heap.get? T=some u/\u.data = .fields ts/\ts[3]? = some .none/\X.s_0.heap.get? T=none/\H T=none)
  (sx:X.s_0.heap.get? x=none) (nx:H x=none) (hE:E o.cls (some dx) H) :
  wpAny (model X.prog X.w) X.A (leaving X.env (.ref x)) (λ_ s''=>CXF X.prog X.w X.outer X.H_0 X.s_0 E (.ref x) s'') E' s:=by
 have fr:X.A.frames=some (X.env::X.outer):=by rw [<- hst];exact I.ok.frames
 have fl:s.heap.FunFrames X.base (X.env::X.outer):=by rw [<- hst];exact I.stack
 have nex:∀ b,b∉X.ex:=λb z=>by rw [hex] at z;cases z
 have old:∀ {b:Addr} {u:Obj},X.s_0.heap.get? b=some u->b < X.s_0.heap.objs.size:=λe=>Heap.lt_size e;have neT:∀ b,head = .ref b->X.s_0.heap.get? b=none/\H b=none:=λb e=>by
  rcases hh with z | ⟨T,_,_,z,_,_,_,_,z1,z2⟩
  ·rw [z] at e;cases e
  ·rw [z] at e;cases e;exact ⟨z1,z2⟩
 refine CX.jx2 fr fl hf hx hd h1 (hh.imp id λ⟨T,u,ts,a1,a2,a3,a4,a5,_⟩=>⟨T,u,ts,a1,a2,a3,a4,a5⟩) λh' T sT Lf ar=>?_;have memL:∀ b,b∈CX.frm (X.env::X.outer)->b=X.env.locals\/b∈frs X.outer:=λb hb=>by
  unfold CX.frm at hb;rw [List.filterMap_cons,hf] at hb;exact List.mem_cons.mp hb
 have outL:∀ b,b∈frs X.outer->b∈CX.frm (X.env::X.outer):=λb hb=>by
  unfold CX.frm;rw [List.filterMap_cons,hf];exact List.mem_cons_of_mem _ hb
 have nfr:∀ b u,X.s_0.heap.get? b=some u->b∉frs X.outer->b∉CX.frm (X.env::X.outer):=λb u e nb z=>by
  rcases memL b z with z | z
  ·exact absurd (Nat.lt_of_lt_of_le (old e) (z▸I.ok.above)) (Nat.lt_irrefl _)
  ·exact nb z
 have nbx:∀ b u,X.s_0.heap.get? b=some u->b≠x:=λb u e z=>by rw [z,sx] at e;cases e
 have nbT:∀ b u,X.s_0.heap.get? b=some u->head≠.ref b:=λb u e z=>by rw [(neT b z).1] at e;cases e
 have un:Un (frs X.outer) [] X.H_0 H X.s_0.heap h':=by
  refine ⟨λb u e n hb _=>Lf.keep b u (nbx b u e) (nbT b u e) (nfr b u e hb) (I.base.keep b u e n hb (nex b)),λb u e n hb _=>?_,λb u e n _=>I.base.free b u e n (nex b),λb u e _=>?_,I.base.tups,I.base.frzs,I.base.tbls⟩
  ·obtain ⟨sl,e1⟩:=I.base.slot b u e n hb (nex b);obtain ⟨sl',e2⟩:=Lf.slot b _ (outL b hb) e1;exact ⟨sl',e2⟩
  ·obtain ⟨u1,e1⟩:=I.base.there b u e (nex b);by_cases hb:b∈frs X.outer
   ·obtain ⟨sl,e2⟩:=Lf.slot b u1 (outL b hb) e1;exact ⟨_,e2⟩
   ·exact ⟨u1,Lf.keep b u1 (nbx b u e) (nbT b u e) (nfr b u e hb) e1⟩
 have hok:HOk X.prog X.w H h':=λa u e=>(I.hok a u e).stay (λb v hb q=>by
  have tr:∃ z,H b=some z:=by
   rcases hb with rfl | hb
   ·exact ⟨_,e⟩
   ·exact ⟨_,hb⟩
  obtain ⟨z,hz⟩:=tr;refine Lf.keep b v (λy=>by rw [y,nx] at hz;cases hz) (λy=>by rw [(neT b y).2] at hz;cases hz) (λy=>?_) q;have y':b∈frs X.stack:=by rw [hst];exact y
  rw [I.stkFree b y'] at hz;cases hz) (λ_ q=>q) λ_ _ q=>q
 rw [hdx] at ar;exact ⟨x,T,o.cls,dx,H,rfl,I.os,I.bare,un,hok,sx,Heap.get?_none_of_le (Nat.le_trans I.sz sT),nx,I.hok.fresh sT,ar,hE⟩
section
variable{P:Program}{w:World}{K:W.Frag}{mg:Str->Option Value}{base:Heap}{N:List Str}{qual:Str}{scope:Scope}{f:Addr}{cd:Value}{A:Around}{outer:List Env}{s:Shared}{H:Hp}{E:XK}
theorem w8:jav (CXF P w) (xt (CXF P w) P w K mg base N qual scope f cd A outer s H E) E:=by
 rintro pins σ H1 s1 e s2 I ⟨x,T,C,dx,H2,rfl,os,bare,un,hok,sx,sT,nx,nT,ar,hE⟩;have back:∀ b,s1.heap.get? b=none->s.heap.get? b=none:=λb z=>by
  cases q:s.heap.get? b with
  | none=>rfl
  | some u =>
   obtain ⟨u',e'⟩:=I.base.there b u q (λm=>nomatch (show b∈([]:List Addr) from m));rw [z] at e';cases e'
 have I2:=I.call' (ch:=[]) os un hok bare (λb z=>absurd z (by simp));obtain ⟨⟨o,vs,hx,hc,hdx,hd,h1⟩,ne,u,ts,hT,hdT,h3⟩:=ar;subst hc;exact jmp I2 rfl rfl rfl hx hd h1 hdx (.inr ⟨T,u,ts,rfl,ne,hT,hdT,h3,back T sT,nT⟩) (back x sx) nx hE
theorem Fun.okF{x qual:Str}{st:Stmt}{f:Addr}{fd:FuncData}{N ps:List Str}{k:Nat}{sp:Sp}(F:Fun K x qual st f fd)(S:jv N ps (jj st))(len:∀ vs H Q E,sp vs H Q E->vs.length=ps.length)
  (hbody:∀ (ac:Value) (A:Around) (outer:List Env) (s:Shared) (H:Hp) (vs:List V) (Q:VK) (E:XK),xw k (A.deeper (envOfC qual (jj st) s.heap.objs.size f ac))->sp vs H Q E->
   ∃ t,PSs (xt (CXF P w) P w K mg base N qual (jj st) f ac A outer s H E) (z9 st) t/\t { nx:=λ_ H'=>Q .non H',rt:=Q } (jc9 N vs) H):xb P w K mg base (CXF P w) (k + 1) f fd ps sp:=by
 obtain ⟨oc,od,kV,doc,pm,an,ac,ct,osl,rfl,lk,hcd⟩:=F.ex;exact j36 lk hcd S len λA outer s H vs Q E hr hsp=>hbody ac A outer s H vs Q E hr hsp
theorem jad:PassesOwn (model P w) (xt (CXF P w) P w K mg base N qual scope f cd A outer s H E).A (xt (CXF P w) P w K mg base N qual scope f cd A outer s H E).env (xt (CXF P w) P w K mg base N qual scope f cd A outer s H E).xe:=PassesOwn.leaving
end
end L2
end
section
set_option maxRecDepth 100000
set_option maxHeartbeats 1000000
namespace L2
open PySem PySem.Spec PyProof.Rows
abbrev jk0:List Value:=[.type "Exception",.type "BaseException",.type "object"]
def jkr(e:DictEntry):Bool:=match e.key with
 | .str _ _=>true
 | _=>false
def jch(K:W.Frag)(C fI:Addr)(fs:List Str):Bool:=match K.lookup C with
 | some ⟨.type "type",_,.cls cd,sl⟩=>(match sl.toList with
  | [_,_,_,_,some (.builtin nw),_]=>cd.mro == .ref C::jk0 && cd.hasDict && !cd.hasDel && nw == "Exception.__new__" && (match K.lookup cd.ns with
   | some ⟨_,_,.dict es _,_⟩=>es.toList.all jkr && nsFind es "__init__" == some (.ref fI) && (nsFind es "__setattr__" == none && (nsFind es "__getattribute__" == none && (nsFind es "__getattr__" == none && fs.all λf=>nsFind es f == none)))
   | _=>false) && PySem.W.typeIn K (.ref fI) == some (.type "function")
  | _=>false)
 | _=>false
theorem jeq{K:W.Frag}{h:Heap}{C fI:Addr}{fs:List Str}(X:K.In h)(q:jch K C fI fs=true):∃ nm qn N bs sn sub ab col dd c0 c1 c2 c3 c5 mN,
  h.get? C=some (excClassObj nm qn C N bs jk0 true sn sub ab col dd c0 c1 c2 c3 c5 "Exception.__new__")/\h.Ns N mN/\mN "__init__"=some (.ref fI)/\mN "__setattr__"=none/\mN "__getattribute__"=none/\mN "__getattr__"=none/\
   (∀ f∈fs,mN f=none)/\∃ oI,h.get? fI=some oI/\oI.cls = .type "function":=by
 unfold jch at q;split at q
 ·rename_i dd cd sl ho;split at q
  ·rename_i c0 c1 c2 c3 nw c5 hs;simp only [Bool.and_eq_true,beq_iff_eq,Bool.not_eq_true'] at q;obtain ⟨⟨⟨⟨⟨q1,q2⟩,q3⟩,q4⟩,q5⟩,q6⟩:=q;split at q5
   ·rename_i oc od es n osl hN;simp only [Bool.and_eq_true,beq_iff_eq] at q5;obtain ⟨⟨r1,r2⟩,r3,r4,r5,r6⟩:=q5;obtain ⟨oI,hI,hIc⟩:=Option.map_eq_some_iff.mp (show (K.lookup fI).map (·.cls)=some (.type "function") from q6);obtain ⟨nm,bs,mro,ns,qn,hd,sn,sub,ab,col,del⟩:=cd;dsimp only at q1 q2 q3 hN;subst q1 q2 q3 q4;have hsl:sl = #[c0,c1,c2,c3,some (.builtin "Exception.__new__"),c5]:=by
     obtain ⟨l⟩:=sl;simp only at hs;rw [hs]
    subst hsl;refine ⟨nm,qn,ns,bs,sn,sub,ab,col,dd,c0,c1,c2,c3,c5,nsFind es,X _ _ ho,⟨_,es,n,X _ _ hN,rfl,λe he=>?_,λ_=>rfl⟩,r2,r3,r4,r5,λf hf=>beq_iff_eq.mp (List.all_eq_true.mp r6 f hf),oI,X _ _ hI,hIc⟩;have z:=List.all_eq_true.mp r1 e (Array.mem_toList_iff.mpr he)
    unfold jkr at z;split at z
    ·rename_i a b c;exact ⟨a,b,c⟩
    ·cases z
   ·cases q5
  ·cases q
 ·cases q
abbrev jkz(C:Addr)(dxo:Option Addr)(t:Addr):Obj:={ cls:=.ref C,dict:=dxo,data:=.fields #[.ref t,.none,.none,.none,.bool false,.none] }
def XO(C:Addr)(dxo:Option Addr)(x:Addr):HO:=.ext λh=>∃ t,h.get? x=some (jkz C dxo t)
def XD(dx:Addr)(fs:List (Str×V)):HO:=.ext λh=>∃ mA,h.Ns1 dx mA/\(∀ f,vw (fs.lookup f) (mA f))/\PySem.Within mA (fs.map (·.1))
section
variable{P:Program}{w:World}{H:Hp}{h:Heap}{x dx C t:Addr}{dxo:Option Addr}{fs:List (Str×V)}
theorem XO.ok(e:h.get? x=some (jkz C dxo t)):y_ P w H h x (XO C dxo x):=⟨⟨t,e⟩,⟨_,e⟩,λh1 h2 ⟨t,e⟩ k=>⟨t,k _ e⟩⟩
theorem XD.ok{mA:Str->Option Value}(n:h.Ns1 dx mA)(r:∀ f,vw (fs.lookup f) (mA f))(wi:PySem.Within mA (fs.map (·.1))):y_ P w H h dx (XD dx fs) :=
 ⟨⟨mA,n,r,wi⟩,let ⟨o,_,_,e,_⟩:=n;⟨o,e⟩,λh1 h2 ⟨mA,n,r⟩ k=>⟨mA,n.at k,r⟩⟩
theorem XO.get(hok:HOk P w H h)(e:H x=some (XO C dxo x)):∃ t,h.get? x=some (jkz C dxo t):=(show y_ P w H h x (XO C dxo x) from hok x _ e).1
theorem XD.get(hok:HOk P w H h)(e:H dx=some (XD dx fs)):∃ mA,h.Ns1 dx mA/\(∀ f,vw (fs.lookup f) (mA f))/\PySem.Within mA (fs.map (·.1)):=(show y_ P w H h dx (XD dx fs) from hok dx _ e).1
theorem XO.ne(hok:HOk P w H h)(e:H x=some (XO C dxo x))(e2:H dx=some (XD dx fs)):dx≠x:=λz=>by
 obtain ⟨t,e3⟩:=XO.get hok e;obtain ⟨mA,⟨o,es,ep,e4,d,_⟩,_⟩:=XD.get hok e2;rw [z,e3] at e4;cases e4;cases d
end
theorem HOk.none_of{P:Program}{w:World}{H:Hp}{h:Heap}{a:Addr}(hok:HOk P w H h)(e:h.get? a=none):H a=none:=by
 cases q:H a with
 | none=>rfl
 | some o =>
  exfalso;have z:y_ P w H h a o:=hok a o q
  cases o with
  | lst xs=>obtain ⟨_,_,_,_,y⟩:=z;rw [e] at y;cases y
  | tup xs=>obtain ⟨_,_,_,_,y,_⟩:=z;rw [e] at y;cases y
  | dK ae=>obtain ⟨_,_,_,_,o,_,_,y,_⟩:=z;rw [e] at y;cases y
  | dT ae=>obtain ⟨_,_,_,_,o,_,_,y,_⟩:=z;rw [e] at y;cases y
  | set S n=>obtain ⟨o,_,_,_,y,_⟩:=z;rw [e] at y;cases y
  | ins C dx fs=>obtain ⟨_,_,_,y,_⟩:=z;rw [e] at y;cases y
  | own y=>obtain ⟨_,y⟩:=z;rw [e] at y;cases y
  | xd fs=>obtain ⟨_,⟨_,_,_,y,_⟩,_⟩:=z;rw [e] at y;cases y
  | rng lo hi=>obtain ⟨_,_,_,y⟩:=z;rw [e] at y;cases y
  | frz ob u=>obtain ⟨y,_⟩:=z;rw [e] at y;cases y
  | tbl ps=>have y:h.get? a=some _:=z;rw [e] at y;cases y
  | met f y=>have y:h.get? a=some _:=z;rw [e] at y;cases y
  | ext φ=>obtain ⟨_,⟨_,y⟩,_⟩:=z;rw [e] at y;cases y
section
variable{X:Cx}{pins:List (Addr×Obj)}{σ:St}{H:Hp}{s:Shared}{h':Heap}{x dx C fI:Addr}{fs:List Str}{f:Str}{y:V}{u:Value}{A:Around}{E:Value->Shared->Prop}
theorem Inv.laidN{a:Addr}{o:HO}{t':Nat}(I:Inv X pins σ H s)(k:∀ b u,s.heap.get? b=some u->h'.get? b=some u)(hn:s.heap.get? a=none)(new:y_ X.prog X.w (upd H a o) h' a o) :
  Inv X pins σ (upd H a o) { s with heap:=h',toks:=t' }:=by
 have nH:=I.hok.none_of hn;have nb:∀ b u,s.heap.get? b=some u->b≠a:=λb u e z=>by rw [z,hn] at e;cases e
 refine I.un ⟨λb u q _ _ _=>k b u q,λb u q _ _ _=>⟨u.slots,k b u q⟩,λb u q n _=>by rw [jm (nb b u q)];exact n,λb u q _=>⟨u,k b u q⟩,λb xs q=>by rw [jm (qu q nH)];exact q,
  λb u xs q=>by rw [jm (qu q nH)];exact q,λb ps q=>⟨#[],by rw [jm (qu q nH),q];simp⟩⟩ λb u e=>?_
 by_cases hb:b=a
 ·subst hb;rw [jd] at e;cases e;exact new
 ·rw [jm hb] at e;exact (I.hok b u e).stay (λc v _ q=>k c v q) (λc q=>by rw [jm (qu q nH)];exact q) λc xs q=>by rw [jm (qu q nH)];exact q
theorem j3l{Q:Unit->Shared->Prop}(I:Inv X pins σ H s)(e:H x=some (XO C none x))(q:jch X.K C fI fs=true)(hf:f∈fs)(hB:typeLookup (.type "Exception") f=pure none)(ry:xm y u)
  (h:∀ dx s',H dx=none->dx≠x->Inv X pins σ (upd (upd H x (XO C (some dx) x)) dx (XD dx [(f,y)])) s'->Q () s'):wpAny (model X.prog X.w) A (setAttr (.ref x) f u) Q E s:=by
 obtain ⟨t,hx⟩:=XO.get I.hok e;obtain ⟨nm,qn,N,bs,sn,sub,ab,col,dd,c0,c1,c2,c3,c5,mN,hC,hN,_,n1,n2,n3,n4,_⟩:=jeq I.kIn q;obtain ⟨hp,g,d,tk,os⟩:=s;refine CX.js1 PySem.F.store_Exception hC hN n1 (n4 f hf) hB hx rfl (λy z=>by cases z) rfl λh' tk' fr=>?_;have nd:H hp.objs.size=none:=I.hok.fresh (Nat.le_refl _)
 have ne:hp.objs.size≠x:=Nat.ne_of_gt (Heap.lt_size hx);have nt:∀ b o,H b=some o->(∀ φ,o≠.ext φ)->b≠x:=λb o q1 q2 z=>by rw [z,e] at q1;exact q2 _ (Option.some.inj q1).symm
 refine h hp.objs.size _ nd ne ?_;have sk:∀ {b:Addr} {o:HO},b≠x->H b=some o->(upd (upd H x (XO C (some hp.objs.size) x)) hp.objs.size (XD hp.objs.size [(f,y)])) b=some o:=λhb q1=>by
  rw [jm (qu q1 nd),jm hb];exact q1
 have I':=I.un (t':=tk') (h':=h') (H':=upd (upd H x (XO C (some hp.objs.size) x)) hp.objs.size (XD hp.objs.size [(f,y)])) ⟨λb v q1 n _ _=>fr.keep b v (λz=>by rw [z,e] at n;cases n) q1,λb v q1 n _ _=>⟨v.slots,fr.keep b v (λz=>by rw [z,e] at n;cases n) q1⟩,
  λb v q1 n _=>by rw [jm (Nat.ne_of_lt (Heap.lt_size q1)),jm (λz=>by rw [z,e] at n;cases n)];exact n,
  λb v q1 _=>by
   by_cases hb:b=x
   ·subst hb;exact ⟨_,fr.obj⟩
   ·exact ⟨v,fr.keep b v hb q1⟩,
  λb xs q1=>sk (nt b _ q1 λφ z=>by cases z) q1,λb o' u' q1=>sk (nt b _ q1 λφ z=>by cases z) q1,λb ps q1=>⟨#[],by rw [sk (nt b _ q1 λφ z=>by cases z) q1];simp⟩⟩ λb o' q1=>?_
 ·exact I'
 by_cases h1:b=hp.objs.size
 ·subst h1;rw [jd] at q1;cases q1;refine XD.ok fr.ns (λk=>?_) (λk hk=>?_)
  ·show vw (List.lookup k [(f,y)]) (if k=f then some u else none);by_cases hk:k=f
   ·have hb:(k == f)=true:=beq_iff_eq.mpr hk;simp only [List.lookup,hb,if_pos hk];exact ry
   ·have hb:(k == f)=false:=beq_eq_false_iff_ne.mpr hk;simp only [List.lookup,hb,if_neg hk];exact True.intro
  ·show k∈[f];by_cases hk':k=f
   ·rw [hk'];exact List.mem_singleton.mpr rfl
   ·exact absurd (if_neg hk') hk
 ·rw [jm h1] at q1;by_cases h2:b=x
  ·subst h2;rw [jd] at q1;cases q1;exact XO.ok fr.obj
  ·rw [jm h2] at q1;exact (I.hok b o' q1).stay (λc v hc z=>fr.keep c v (by
    rcases hc with rfl | hc
    ·exact h2
    ·exact nt c _ hc λφ z=>by cases z) z) (λc z=>sk (nt c _ z λφ z=>by cases z) z) λc xs z=>sk (nt c _ z λφ z=>by cases z) z
theorem j3k{Q:Unit->Shared->Prop}{fs0:List (Str×V)}(I:Inv X pins σ H s)(e:H x=some (XO C (some dx) x))(e2:H dx=some (XD dx fs0))(q:jch X.K C fI fs=true)(hf:f∈fs)(hB:typeLookup (.type "Exception") f=pure none)(ry:xm y u)
  (hl:fs0.length<=1000) (h:∀ s',Inv X pins σ (upd H dx (XD dx (jah f y fs0))) s'->Q () s'):wpAny (model X.prog X.w) A (setAttr (.ref x) f u) Q E s:=by
 obtain ⟨t,hx⟩:=XO.get I.hok e;obtain ⟨mA,ns,rel,wi⟩:=XD.get I.hok e2;have ne:=XO.ne I.hok e e2
 obtain ⟨nm,qn,N,bs,sn,sub,ab,col,dd,c0,c1,c2,c3,c5,mN,hC,hN,_,n1,n2,n3,n4,_⟩:=jeq I.kIn q;have nxC:x≠C:=λz=>by rw [z,hC] at hx;cases hx
 obtain ⟨hp,g,d,tk,os⟩:=s;refine PySem.store_attr (ns:=fs0.map (·.1)) PySem.F.store_Exception hC hN n1 (n4 f hf) hB nxC ⟨_,hx,rfl,(λc z=>by cases z),.inr ⟨dx,rfl,ne,ns⟩⟩ (λh' tk' J k o1=>h _ ?_) wi (by rw [List.length_map,sizeLine_eq];omega);obtain ⟨ob,hob,b1,b2,b3,b4⟩:=o1 _ hx;have hx':h'.get? x=some (jkz C (some dx) t):=by
  rw [hob];obtain ⟨z1,z2,z3,z4⟩:=ob;have b5:=b4 dx rfl
  dsimp only at b1 b2 b3 b5;rw [b1,b2,b3,b5]
 obtain ⟨ob2,hob2,_,_,dn⟩:=J;rw [hx'] at hob2;cases hob2;rcases dn with ⟨z,_⟩ | ⟨d2,z,_,ns'⟩
 ·cases z
 cases z;refine I.write (x:=dx) (e:=dx) (by rw [e2];exact True.intro) (.inl rfl) (λb v hb z=>?_) (let ⟨o,_,_,e',_⟩:=ns';⟨o,e'⟩) (XD.ok ns' (λk=>?_) (λk hk=>?_))
 ·by_cases hbx:b=x
  ·subst hbx;rw [hx] at z;cases z;exact hx'
  ·exact k b v hbx (λo0 d0 z1 z2=>by rw [hx] at z1;cases z1;cases z2;exact hb) z
 ·show vw ((jah f y fs0).lookup k) (if k=f then some u else mA k);rw [jfo];by_cases z:k=f
  ·rw [if_pos z,if_pos z];exact ry
  ·rw [if_neg z,if_neg z];exact rel k
 ·by_cases z:k=f
  ·rw [z];exact (jdq f y fs0).1
  ·exact (jdq f y fs0).2 k (wi k λz2=>hk (by show (if k=f then some u else mA k)=none;rw [if_neg z];exact z2))
end
end L2
end
section
set_option autoImplicit false
set_option maxRecDepth 100000
namespace CX
open PySem
def jzc(h:Heap)(C:Addr):Prop:=∃ (nm qn:Str) (N:Addr) (bs bm:List Value) (hdct:Bool) (sn:List Str) (sub:List Value) (ab:Bool) (col:Option Bool) (dd:Option Addr) (c0 c1 c2 c3 c5:Option Value) (newId:String),
 h.get? C=some (excClassObj nm qn C N bs bm hdct sn sub ab col dd c0 c1 c2 c3 c5 newId)/\bm.contains (.type "BaseException")=true
section
variable{M:Model}{A:Around}{E:Value->Shared->Prop}{env:Env}{C:Addr}
theorem jr0{s:Shared}{y:Sem Value}{Q:Flow->Shared->Prop}(hh:A.handled=none)
  (hw:wpAny M A y (λv s1=>∃ e t dx,v = .ref e/\jzc s1.heap C/\s1.heap.get? e=some { cls:=.ref C,dict:=dx,data:=.fields #[.ref t,.none,.none,.none,.bool false,.none] }/\E (.ref e) s1) E s) :
  wpAny M A (raiseStmt env (some y) none) Q E s:=by
 unfold raiseStmt;refine wpAny_bind (wpAny_mono hw (λv s1 h1=>?_) λ_ _ z=>z);obtain ⟨e,t,dx,rfl,⟨nm,qn,N,bs,bm,hdct,sn,sub,ab,col,dd,c0,c1,c2,c3,c5,newId,hC,hbase⟩,he,hE⟩:=h1;have has:(Value.ref C::bm).contains (.type "BaseException")=true:=by rw [List.contains_cons,hbase,Bool.or_true]
 obtain ⟨hp,g,d,tk,os⟩:=s1
 repeat (first
  | with_reducible refine wpAny_loadPart_at he ?_
  | with_reducible refine wpAny_loadPart_at hC ?_
  | (with_reducible refine wpAny_isSubtype_exc hC ?_
     rw [has])
  | wp_step)
 exact wpAny_raiseNew_none hh hE
theorem raise_exec{s:Shared}{e:Expr}{pos:Pos}{Q:Flow->Shared->Prop}(hh:A.handled=none)
  (hw:wpAny M A (eval e env) (λv s1=>∃ a t dx,v = .ref a/\jzc s1.heap C/\s1.heap.get? a=some { cls:=.ref C,dict:=dx,data:=.fields #[.ref t,.none,.none,.none,.bool false,.none] }/\E (.ref a) s1) E s) :
  wpAny M A (exec (.Raise (some e) none pos) env) Q E s:=by
 rw [arm_exec_Raise];refine wpAny_bind (wpAny_standAt ?_);show wpAny M A (raiseStmt env (some (do let v <- eval e env;standAt pos;pure v)) none) Q E s
 refine jr0 (C:=C) hh (wpAny_bind (wpAny_mono hw (λv s1 h1=>?_) λ_ _ z=>z));exact wpAny_bind (wpAny_standAt (wpAny_pure h1))
end
end CX
end
section
set_option maxRecDepth 100000
set_option maxHeartbeats 1000000
namespace L2
open PySem PySem.Spec PyProof.Rows
def unt(H:Hp)(x:Addr):Hp:=λb=>if b=x then none else H b
theorem jne{H:Hp}{x:Addr}:unt H x x=none:=by unfold unt;rw [if_pos rfl]
theorem jnf{H:Hp}{x b:Addr}(h:b≠x):unt H x b=H b:=by unfold unt;rw [if_neg h]
section
variable{X:Cx}{pins:List (Addr×Obj)}{σ:St}{H:Hp}{s:Shared}{x:Addr}
theorem Inv.untrack{φ:Heap->Prop}(I:Inv X pins σ H s)(e:H x=some (.ext φ)):Inv X pins σ (unt H x) s:=by
 have ns:∀ {b:Addr} {o:HO},H b=some o->(∀ φ,o≠.ext φ)->unt H x b=some o:=λq1 q2=>by
  rw [jnf (λz=>by rw [z,e] at q1;exact q2 _ (Option.some.inj q1).symm)];exact q1
 have nn:∀ {b:Addr},H b=none->unt H x b=none:=λq=>by unfold unt;split <;> first | rfl | exact q
 refine ⟨I.ok,I.os,I.bare,⟨I.base.keep,I.base.slot,λb o q n hx=>nn (I.base.free b o q n hx),I.base.there,λb xs q=>ns (I.base.tups b xs q) (λφ z=>by cases z),λb o u q=>ns (I.base.frzs b o u q) (λφ z=>by cases z),λb ps q=>?_⟩,I.loc,I.cell,nn I.free,λy c q=>nn (I.freeC y c q),λp hp=>?_,λb o q=>?_,I.len⟩
 ·obtain ⟨m,q2⟩:=I.base.tbls b ps q;exact ⟨m,ns q2 (λφ z=>by cases z)⟩
 ·obtain ⟨a,n,r⟩:=I.pin p hp;exact ⟨a,nn n,r⟩
 ·have hb:b≠x:=λz=>by rw [z,jne] at q;cases q
  rw [jnf hb] at q;exact (I.hok b o q).stay (λ_ _ _ z=>z) (λc z=>ns z (λφ z=>by cases z)) λc xs z=>ns z (λφ z=>by cases z)
theorem Inv.old(I:Inv X pins σ H s){b:Addr}(hx:b∉X.ex)(z:s.heap.get? b=none):X.s_0.heap.get? b=none:=by
 cases q:X.s_0.heap.get? b with
 | none=>rfl
 | some u =>
  obtain ⟨u',e'⟩:=I.base.there b u q hx;rw [z] at e';cases e'
end
section
variable{X:Cx}{CX:CXT}{k:Nat}{C fI:Addr}{fd:FuncData}{ps:List Str}{sp:Sp}{E:XK}{fs:List Str}
theorem juj{pins:List (Addr×Obj)}{σ:St}{H:Hp}{s:Shared}{R:Addr->Hp->Prop}{us:List Value}{vs:List V}(q:jch X.K C fI fs=true)(F:xb X.prog X.w X.K X.mg X.base CX k fI fd ps sp)(hr:xw (k + 1) X.A)
  (hb:zl X.K fd ps []) (hx:jav CX X E) (I:Inv X pins σ H s) (r:qw vs us) (ak:vs.length<=1000)
  (h:∀ x,H x=none->sp (.ref x::vs) (upd H x (XO C none x)) (λv H2=>v = .non/\R x H2) E) :
  wpAny (model X.prog X.w) X.A (call (.ref C) us) (λu s'=>∃ x H',u = .ref x/\s.heap.get? x=none/\Inv X pins σ H' s'/\R x H') X.xe s:=by
 obtain ⟨nm,qn,N,bs,sn,sub,ab,col,dd,c0,c1,c2,c3,c5,mN,hC,hN,n0,n1,n2,n3,n4,oI,hI,hIc⟩:=jeq I.kIn q;obtain ⟨hp,g,d,tk,os⟩:=s;refine wpAny_call_exc_init (F:=PySem.F.excBase_Exception) hC hN n0 hI hIc (λh' e hm=>?_) (by rw [<- r.length,sizeLine_eq];omega);obtain ⟨t,he,_,_⟩:=hm.there;have I2:=I.laidN (a:=e) (o:=XO C none e) (h':=h') (t':=tk) hm.keeps hm.new (XO.ok he)
 have hq:=h e (I.hok.none_of hm.new);have r2:qw (V.ref e::vs) (Value.ref e::us):=.cons rfl r
 have hl:(Value.ref e::us ++ []).length=ps.length:=by
  rw [List.append_nil,<- r2.length];exact F.len _ _ _ _ hq
 have bd:=hb _ (Value.ref e::us) I2.kIn hl;rw [List.append_nil] at bd;refine wpAny_call (codeAny_mono (F.run _ X.stack _ _ ⟨Value.ref e::us,[]⟩ (Value.ref e::us) _ _ E (hr.make C us []) (I2.env0.make C us []) bd r2 hq) λz s' hq'=>?_);cases z with
 | error y=>exact hx pins σ _ _ y s' I2 hq'
 | ok fl =>
  cases fl with
  | ret u =>
   obtain ⟨v,H',I3,rv,ev,q3⟩:=I2.after hq';subst ev;exact ⟨rv,e,H',rfl,hm.new,I3,q3⟩
  | next=>exact False.elim hq'
  | brk=>exact False.elim hq'
  | cont=>exact False.elim hq'
def jwd(X:Cx)(C:Addr)(E:XK):Prop:=∀ (pins:List (Addr×Obj)) (σ:St) (H:Hp) (s:Shared) (x dx:Addr),Inv X pins σ H s->H x=some (XO C (some dx) x)->X.s_0.heap.get? x=none->E (.ref C) (some dx) (unt H x)->X.xe (.ref x) s
def jtv(C:Addr)(sp:Sp)(E:XK)(t:TA):TS:=λ_ σ H=>t σ H λvs H1=>vs.length<=1000/\∀ x,H1 x=none->
 sp (.ref x::vs) (upd H1 x (XO C none x)) (λv H2=>v = .non/\∃ dx,H2 x=some (XO C (some dx) x)/\E (.ref C) (some dx) (unt H2 x)) E
theorem jun{x:Str}{e:Expr}{es:List Expr}{t:TA}{np cpos pos:Pos}(q:jch X.K C fI fs=true)(F:xb X.prog X.w X.K X.mg X.base CX k fI fd ps sp)(hr:xw (k + 1) X.A)(hg:Gl X x)(hm:X.mg x=some (.ref C))
  (hk:PySem.W.keepIn X.K (.ref C)=true) (hb:zl X.K fd ps []) (hx:jav CX X E) (hR:jwd X C E) (hc:X.calm=true) (hex:X.ex=[]) (ha:PA X (e::es) t)
  (hdb:(x == ("__debug__":Str))=false:=by decide) (he:starEach (e::es) X.env=(false,eval e X.env)::starEach es X.env:=by rfl) (hpl:(backTo cpos (starEach es X.env)).any (·.1)=false:=by rfl) :
  PS X (.Raise (some (.Call (.Name x np) (e::es) [] cpos)) none pos) (jtv C sp E t):=by
 intro pins s σ H D I h;refine _root_.CX.raise_exec (C:=C) (I.ok.hd hc) ?_;refine wpAny_Call_Name_kw (jf5 I hg hm ?_ hdb);refine PySem.W.callWith_K (h₀:=X.base) I.ok.mod.kin hk (thn (ha cpos pins s σ H _ I h) λus s1 ⟨vs,H1,I1,r,z,q1⟩=>⟨I1.kIn,?_⟩) he hpl;refine thn (juj q F hr hb hx I1 r z q1) λu s2 ⟨y,H2,eu,ny,I2,dx,e2,q2⟩=>?_;obtain ⟨t,ht⟩:=XO.get I2.hok e2;obtain ⟨nm,qn,N,bs,sn,sub,ab,col,dd,c0,c1,c2,c3,c5,mN,hC,_⟩:=jeq I2.kIn q;exact ⟨y,t,some dx,eu,⟨nm,qn,N,bs,jk0,true,sn,sub,ab,col,dd,c0,c1,c2,c3,c5,_,hC,by decide⟩,ht,hR pins σ H2 s2 y dx I2 e2 (I1.old (by rw [hex];simp) ny) q2⟩
end
section
variable{P:Program}{w:World}{K:W.Frag}{mg:Str->Option Value}{base:Heap}{N:List Str}{qual:Str}{scope:Scope}{f:Addr}{cd:Value}{A:Around}{outer:List Env}{s:Shared}{H:Hp}{E:XK}{C:Addr}
theorem j11:jwd (xt (CXF P w) P w K mg base N qual scope f cd A outer s H E) C E:=by
 intro pins σ H1 s1 x dx I e n hE;obtain ⟨t,ht⟩:=XO.get I.hok e;have I2:=I.untrack e
 exact jmp I2 rfl rfl rfl ht rfl rfl rfl (.inl rfl) n jne hE
end
end L2
end
section
set_option maxRecDepth 100000
set_option maxHeartbeats 1000000
namespace L2
open PySem PySem.Spec PyProof.Rows
abbrev Cx.with(X:Cx)(pn:List (Addr×Obj))(E:Value->Shared->Prop):Cx:={ X with pn:=pn,xe:=E }
abbrev Cx.clause(X:Cx)(pn:List (Addr×Obj))(e:Value):Cx:={ X with pn:=pn,xe:=λ_ _=>False,A:=X.A.mark (some e),calm:=false }
theorem Cx.Ok.with{X:Cx}(ok:X.Ok)(pn:List (Addr×Obj))(E:Value->Shared->Prop):(X.with pn E).Ok :=
 ⟨ok.mod,ok.kind,ok.glob,ok.blt,ok.above,ok.inj,ok.has,ok.cab,ok.hd,ok.frames,ok.stk,ok.exf,ok.bs,ok.bsz,ok.noex,ok.exfs,ok.funs,ok.frf⟩
theorem Cx.Ok.clause{X:Cx}(ok:X.Ok)(pn:List (Addr×Obj))(e:Value):(X.clause pn e).Ok :=
 ⟨ok.mod,ok.kind,ok.glob,ok.blt,ok.above,ok.inj,ok.has,ok.cab,(λz=>nomatch z),ok.frames,ok.stk,ok.exf,ok.bs,ok.bsz,ok.noex,ok.exfs,ok.funs,ok.frf⟩
section
variable{X:Cx}{pins pn:List (Addr×Obj)}{σ:St}{H:Hp}{s:Shared}{x:Addr}
theorem Inv.toPn(I:Inv X pins σ H s)(E:Value->Shared->Prop):Inv (X.with (X.pn ++ pins) E) [] σ H s :=
 ⟨I.ok.with _ E,I.os,I.bare,I.base,I.loc,I.cell,I.free,I.freeC,λp hp=>I.pin p (by simpa using hp),I.hok,I.len⟩
theorem Inv.ofPn{E:Value->Shared->Prop}{pins':List (Addr×Obj)}(ok:X.Ok)(I:Inv (X.with (X.pn ++ pins) E) pins' σ H s):Inv X pins σ H s :=
 ⟨ok,I.os,I.bare,I.base,I.loc,I.cell,I.free,I.freeC,λp hp=>I.pin p (List.mem_append_left _ hp),I.hok,I.len⟩
theorem Inv.toClause{E:Value->Shared->Prop}{pins':List (Addr×Obj)}(ok:X.Ok)(I:Inv (X.with pn E) pins' σ H s)(e:Value):Inv (X.clause pn e) pins' σ H s :=
 ⟨ok.clause pn e,I.os,I.bare,I.base,I.loc,I.cell,I.free,I.freeC,I.pin,I.hok,I.len⟩
theorem Inv.ofClause{e:Value}{pins':List (Addr×Obj)}(ok:X.Ok)(I:Inv (X.clause (X.pn ++ pins) e) pins' σ H s):Inv X pins σ H s :=
 ⟨ok,I.os,I.bare,I.base,I.loc,I.cell,I.free,I.freeC,λp hp=>I.pin p (List.mem_append_left _ hp),I.hok,I.len⟩
theorem Inv.track{φ:Heap->Prop}{o:Obj}{vs:Array Value}(I:Inv X pins σ H s)(nx:H x=none)(n0:X.s_0.heap.get? x=none)(hx:s.heap.get? x=some o)(hd:o.data = .fields vs)(hφ:φ s.heap)
  (hst:∀ h1 h2:Heap,φ h1->(∀ o,h1.get? x=some o->h2.get? x=some o)->φ h2) (hp:∀ p∈X.pn ++ pins,p.1≠x):Inv X pins σ (upd H x (.ext φ)) s:=by
 have sk:∀ {b:Addr} {o:HO},H b=some o->upd H x (.ext φ) b=some o:=λq=>by rw [jm (qu q nx)];exact q
 refine ⟨I.ok,I.os,I.bare,⟨I.base.keep,I.base.slot,λb u q n hx'=>?_,I.base.there,λb xs q=>sk (I.base.tups b xs q),λb u' v q=>sk (I.base.frzs b u' v q),λb ps q=>?_⟩,I.loc,I.cell,?_,λy c q=>?_,λp hp'=>?_,λb u q=>?_,I.len⟩
 ·rw [jm (λz=>by rw [z,n0] at q;cases q)];exact I.base.free b u q n hx'
 ·obtain ⟨m,q2⟩:=I.base.tbls b ps q;exact ⟨m,sk q2⟩
 ·rw [jm (λz=>?_)]
  ·exact I.free
  ·obtain ⟨m,⟨ol,es,ep,hl,hld,_⟩,_⟩:=I.loc;rw [z,hx] at hl;cases hl;rw [hd] at hld;cases hld
 ·rw [jm (λz=>?_)]
  ·exact I.freeC y c q
  ·obtain ⟨v,oc,hc,hcd⟩:=I.cell y c q;rw [z,hx] at hc;cases hc;rw [hd] at hcd;cases hcd
 ·obtain ⟨a,n,r⟩:=I.pin p hp';exact ⟨a,by rw [jm (hp p hp')];exact n,r⟩
 ·by_cases hb:b=x
  ·subst hb;rw [jd] at q;cases q;exact ⟨hφ,⟨o,hx⟩,hst⟩
  ·rw [jm hb] at q;exact (I.hok b u q).stay (λ_ _ _ z=>z) (λc z=>sk z) λc xs z=>sk z
end
def yx(x:Addr):HO:=.ext λh=>∃ o,h.get? x=some o
theorem yx.ok{P:Program}{w:World}{H:Hp}{h:Heap}{x:Addr}{o:Obj}(e:h.get? x=some o):y_ P w H h x (yx x):=⟨⟨o,e⟩,⟨o,e⟩,λh1 h2 ⟨o,e⟩ k=>⟨o,k o e⟩⟩
section
variable{X:Cx}{pins pins' pn:List (Addr×Obj)}{σ:St}{H:Hp}{s s2:Shared}{E':Value->Shared->Prop}{e:Value}{EB:XK}{M:Model}{A:Around}{E:Value->Shared->Prop}{Q:Unit->Shared->Prop}
theorem jtt(hst:X.stack=X.env::X.outer)(hf:X.env.frame=some X.env.locals)(hex:X.ex=[])(I:Inv X pins σ H s)(c:CXF X.prog X.w X.stack H s EB e s2)
  (h:∀ (x T:Addr) (C:Value) (dx:Addr) (H2 H3:Hp) (s3:Shared),e = .ref x->EB C (some dx) H2->H2 x=none->jg H2 H3->H3 x=some (yx x)->H3 T=some (yx T)->CX.Air s3.heap x T C (some dx) .none->Inv X pins σ H3 s3->Q () s3)
  (hA:A.frames=X.A.frames):wpAny M A (noteFrame e X.env) (λ_ s3=>wpAny M A (setFlight e none) Q E s3) E s2:=by
 obtain ⟨x,T,C,dx,H2,rfl,os,bare,un,hok,sx,sT,nx,nT,ar,hE⟩:=c;have I2:=I.call' (ch:=[]) os un hok bare (λb z=>absurd z (by simp))
 obtain ⟨⟨o,vs,hx,hc,hdx,hd,h1⟩,ne,u,ts,hT,hdT,h3⟩:=ar;have nox:∀ b,b∉X.ex:=λb z=>by rw [hex] at z;cases z
 have px:∀ b,s.heap.get? b=none->∀ p∈X.pn ++ pins,p.1≠b:=λb hb p hp z=>by
  have q:=(I.pin p hp).1;rw [z,hb] at q;cases q
 have I3:Inv X pins σ (upd H2 x (yx x)) s2:=I2.track (x:=x) (φ:=λh=>∃ o,h.get? x=some o) nx (I.old (nox x) sx) hx hd ⟨o,hx⟩ (λh1 h2 ⟨o,q⟩ k=>⟨o,k o q⟩) (px x sx);have nT':upd H2 x (yx x) T=none:=by rw [jm ne];exact nT
 have I4:Inv X pins σ (upd (upd H2 x (yx x)) T (yx T)) s2:=I3.track (x:=T) (φ:=λh=>∃ o,h.get? T=some o) nT' (I.old (nox T) sT) hT hdT ⟨u,hT⟩ (λh1 h2 ⟨o,q⟩ k=>⟨o,k o q⟩) (px T sT);have fr:A.frames=some (X.env::X.outer):=by rw [hA,<- hst];exact I.ok.frames
 have fl:s2.heap.FunFrames X.base (X.env::X.outer):=by rw [<- hst];exact I2.stack
 have fe:frs X.stack=CX.frm (X.env::X.outer):=by rw [hst];rfl
 refine CX.jqw fr fl hf hx hd h1 (.inr ⟨T,u,ts,rfl,ne,hT,hdT,h3⟩) λg1 T1 sT1 Lf ar1=>?_;have tx:(upd (upd H2 x (yx x)) T (yx T)) x=some (yx x):=by rw [jm (Ne.symm ne),jd]
 have tT:(upd (upd H2 x (yx x)) T (yx T)) T=some (yx T):=jd;have fresh:(upd (upd H2 x (yx x)) T (yx T)) T1=none:=I4.hok.fresh sT1
 have nb:∀ b v,(upd (upd H2 x (yx x)) T (yx T)) b=none->s2.heap.get? b=some v->b≠x/\Value.ref T≠.ref b:=λb v n _=>⟨λz=>(by rw [z,tx] at n;cases n),λz=>(by cases z;rw [tT] at n;cases n)⟩
 have oldT1:∀ b v,s2.heap.get? b=some v->b≠T1:=λb v q=>Nat.ne_of_lt (Nat.lt_of_lt_of_le (Heap.lt_size q) sT1);have sk:∀ {b:Addr} {o:HO},(upd (upd H2 x (yx x)) T (yx T)) b=some o->(upd (upd (upd H2 x (yx x)) T (yx T)) T1 (yx T1)) b=some o:=λq=>by rw [jm (qu q fresh)];exact q
 obtain ⟨⟨ox,vx,hx1,cx1,dx1,dd1,v1⟩,neT1,oT1,tsT1,hT1,hdT1,h31⟩:=id ar1;have I5:Inv X pins σ (upd (upd (upd H2 x (yx x)) T (yx T)) T1 (yx T1)) { s2 with heap:=g1 }:=by
  refine I4.call' (ch:=[]) (s':={ s2 with heap:=g1 }) rfl ⟨λb v q n hb _=>Lf.keep b v (nb b v n q).1 (nb b v n q).2 (fe▸hb) q,λb v q n hb _=>Lf.slot b v (fe▸hb) q,λb v q n _=>by rw [jm (oldT1 b v q)];exact n,λb v q _=>Lf.there b v q,λb xs q=>sk q,λb o' u' q=>sk q,
   λb ps q=>⟨#[],by rw [sk q];simp⟩⟩ (λb v q=>?_) bare (λb z=>absurd z (by simp))
  by_cases h1:b=T1
  ·subst h1;rw [jd] at q;cases q;exact yx.ok hT1
  ·rw [jm h1] at q;by_cases h2:b=T
   ·subst h2;rw [jd] at q;cases q;obtain ⟨v',e'⟩:=Lf.there b u hT;exact yx.ok e'
   ·have q':=q;rw [jm h2] at q;by_cases h3:b=x
    ·subst h3;rw [jd] at q;cases q;exact yx.ok hx1
    ·rw [jm h3] at q;refine (I4.hok b v q').stay (λc y hc z=>?_) (λc z=>sk z) λc xs z=>sk z;have tr:∃ o',H2 c=some o':=by
      rcases hc with rfl | hc
      ·exact ⟨_,q⟩
      ·by_cases a1:c=T
       ·rw [a1,tT] at hc;cases hc
       ·by_cases a2:c=x
        ·rw [a2,tx] at hc;cases hc
        ·rw [jm a1,jm a2] at hc;exact ⟨_,hc⟩
     obtain ⟨o',ho'⟩:=tr;refine Lf.keep c y (λz=>by rw [z,nx] at ho';cases ho') (λz=>by cases z;rw [nT] at ho';cases ho') (λz=>?_) z;have z':c∈frs X.stack:=fe▸z
     rw [I2.stkFree c z'] at ho';cases ho'
 refine CX.jg8 (s:={ s2 with heap:=g1 }) ar1 λg2 k2 ar2=>?_;obtain ⟨oT2,tsT2,hT2,_⟩:=ar2.tb;have I6:=I5.write (x:=T1) (e:=T1) (o:=yx T1) (h':=g2) (t':=s2.toks) (by rw [jd];exact True.intro) (.inl rfl) (λb v hb q=>k2 b v hb q) ⟨_,hT2⟩ (yx.ok hT2)
 subst hc;rw [hdx] at ar2;refine h x T1 o.cls dx H2 _ { s2 with heap:=g2 } rfl hE nx (λb v q=>?_) ?_ jd ar2 I6
 ·have a1:b≠x:=qu q nx;have a2:b≠T:=qu q nT
  have a3:(upd (upd H2 x (yx x)) T (yx T)) b=some v:=by rw [jm a2,jm a1];exact q
  rw [jb9];exact sk a3
 ·rw [jb9];exact sk tx
theorem jpb{x T:Addr}{C:Value}{dx:Option Addr}(I:Inv X pins σ H s)(eT:H T=some (yx T))(ar:CX.Air s.heap x T C dx .none)
  (h:∀ s',CX.Air s'.heap x T C dx .none->Inv X pins σ H s'->Q () s'):wpAny M A (setFlight (.ref x) none) Q E s:=by
 refine CX.jg8 ar λg k ar2=>?_;obtain ⟨oT,tsT,hT,_⟩:=ar2.tb;have I2:=I.write (x:=T) (e:=T) (o:=yx T) (h':=g) (t':=s.toks) (by rw [eT];exact True.intro) (.inl rfl) (λb v hb q=>k b v hb q) ⟨_,hT⟩ (yx.ok hT)
 have e2:upd H T (yx T)=H:=by
  funext b
  unfold upd;split
  ·rename_i z;rw [z,eT]
  ·rfl
 rw [e2] at I2;exact h _ ar2 I2
end
end L2
end
section
set_option maxRecDepth 100000
set_option maxHeartbeats 1000000
namespace L2
open PySem PySem.Spec PyProof.Rows
def jct(w:World)(K:W.Frag)(a:Addr)(ae:List (Key×V)):Prop:=(a == sysModules)=false/\∃ o es ep,K.lookup a=some o/\o.ExactDict/\o.data = .dict es ep/\
 Paired (λ(e:DictEntry) (kv:Key×V)=>jag kv.1 e.key=true/\e.hash=jjq w kv.1/\xm kv.2 e.val) es.toList ae
theorem jct.map{P:Program}{w:World}{K:W.Frag}{h:Heap}{a:Addr}{ae:List (Key×V)}(X:K.In h)(d:jct w K a ae):∃ f,h.MapOf (yq P w) a f/\∀ k,vw (zf ae k) (f k):=by
 obtain ⟨_,o,es,ep,l,x,hd,p⟩:=d;refine ⟨findBy (yq P w).is es,⟨o,es,ep,X _ _ l,x,hd,λe he=>?_,λ_=>rfl⟩,λk=>?_⟩
 ·have all:∀ {l:List DictEntry} {m:List (Key×V)},Paired (λ(e:DictEntry) (kv:Key×V)=>jag kv.1 e.key=true/\e.hash=jjq w kv.1/\xm kv.2 e.val) l m->∀ e∈l,∃ k,jag k e.key=true/\e.hash=jjq w k:=by
   intro l m q;induction q with
   | nil=>intro e he;cases he
   | cons r t ih =>
    intro e he;rcases List.mem_cons.mp he with z | z
    ·subst z;exact ⟨_,r.1,r.2.1⟩
    ·exact ih e z
  exact all p e (Array.mem_toList_iff.mpr he)
 ·have all:∀ {l:List DictEntry} {m:List (Key×V)},Paired (λ(e:DictEntry) (kv:Key×V)=>jag kv.1 e.key=true/\e.hash=jjq w kv.1/\xm kv.2 e.val) l m->
    vw (zf m k) ((l.find? λe=>jag k e.key).map (·.val)):=by
   intro l m q;induction q with
   | nil=>exact True.intro
   | @cons e kv es' kvs' r t ih =>
    by_cases z:kv.1=k
    ·have b:jag k e.key=true:=by rw [<- z];exact r.1
     rw [ja9 z,List.find?_cons,b];exact r.2.2
    ·have b:jag k e.key=false:=by
      cases c:jag k e.key with
      | false=>rfl
      | true=>exact absurd ((yq P w).inj e.key kv.1 k r.1 c) z
     rw [zx z,List.find?_cons,b];exact ih
  have e1:=all p;obtain ⟨l⟩:=es;unfold findBy;rw [<- Array.find?_toList];exact e1
section
variable{X:Cx}
def jw0(w:World)(K:W.Frag)(neg:Bool):R2:=λx y H Q=>∃ a ae k,y = .ref a/\jct w K a ae/\x=kV k/\Q (.bl (if neg then !(zf ae k).isSome else (zf ae k).isSome)) H
theorem jhz:OpR X (compareOp .In) (jw0 X.w X.K false):=by
 rintro pins s σ H x y v u Q I rx ry ⟨a,ae,k,rfl,d,rfl,q⟩;cases ry;obtain ⟨f,m,rel⟩:=d.map (P:=X.prog) I.kIn;refine wpAny_in_of (jks rx) d.1 m ?_;rw [<- (rel k).isSome_eq];exact ⟨.bl _,H,I.tok _,rfl,q⟩
theorem juu:OpR X (compareOp .NotIn) (jw0 X.w X.K true):=by
 rintro pins s σ H x y v u Q I rx ry ⟨a,ae,k,rfl,d,rfl,q⟩;cases ry;obtain ⟨f,m,rel⟩:=d.map (P:=X.prog) I.kIn;refine wpAny_notIn_of (jks rx) d.1 m ?_;rw [<- (rel k).isSome_eq];exact ⟨.bl _,H,I.tok _,rfl,q⟩
def j1d(w:World)(K:W.Frag)(td ty:TE):TE:=λσ H Q=>td σ H λx H1=>ty σ H1 λy H2=>∃ a ae k v,x = .ref a/\jct w K a ae/\y=kV k/\zf ae k=some v/\Q v H2
theorem jc1{o i:Expr}{td ty:TE}{pos:Pos}(ho:PE X o td)(hi:PE X i ty)(hs:jyp i):PE X (.Subscript o i pos) (j1d X.w X.K td ty):=by
 intro pins s σ H Q I h;refine jqb PySem.F.slot_dict_getitem.lookup hs (thn (ho pins s σ H _ I h) λu s1 ⟨x,H1,I1,rx,q1⟩=>thn (hi pins s1 σ H1 _ I1 q1) λiv s2 ⟨y,H2,I2,ry,a,ae,k,v,ex,d,ey,l,q2⟩=>?_);subst ex ey;obtain rfl:u=Value.ref a:=rx;obtain ⟨f,m,rel⟩:=d.map (P:=X.prog) I2.kIn;obtain ⟨w',hw,rw'⟩:=vw.some_of (v:=v) (o:=f k) (by rw [<- l];exact rel k);exact ⟨m.typeIs,wpAny_getItem_of (jks ry) m hw ⟨v,H2,I2.tok _,rw',q2⟩⟩
def jk8(P:Program)(w:World)(K:W.Frag)(a:Addr)(ae:List (List Key×V)):Prop:=(a == sysModules)=false/\∃ o es ep,∃ xs:List (List Key×Addr×Value),K.lookup a=some o/\o.ExactDict/\o.data = .dict es ep/\
 es.toList=xs.map (entryOfKey (tupleKind (yq P w)))/\(xs.map (·.1)).Nodup/\
 Paired (λ(p:List Key×V) (q:List Key×Addr×Value)=>p.1=q.1/\xm p.2 q.2.2/\∃ o ad n,K.lookup q.2.1=some o/\o.cls = .type "tuple"/\o.data = .seq ad n/\ItemsAre (yq P w) q.1 ad.toList) ae xs
theorem jk8.dic{P:Program}{w:World}{K:W.Frag}{h:Heap}{a:Addr}{ae:List (List Key×V)}(X:K.In h)(d:jk8 P w K a ae) :
  ∃ xs,h.DictOfH (tupleKind (yq P w)) a xs/\∀ k,vw (zf ae k) ((atKey xs k).map (·.2)):=by
 obtain ⟨_,o,es,ep,xs,l,x,hd,he,nd,p⟩:=d;refine ⟨xs,⟨o,es,ep,X _ _ l,x,hd,he,?_,nd⟩,λk=>?_⟩
 ·clear he nd;induction p with
  | nil=>intro x hx;cases hx
  | cons r t ih =>
   intro x hx;rcases List.mem_cons.mp hx with z | z
   ·subst z;obtain ⟨_,_,o',ad,n,q1,q2,q3,q4⟩:=r;exact ⟨o',ad,n,X _ _ q1,q2,q3,q4⟩
   ·exact ih x z
 ·clear he nd;induction p with
  | nil=>exact True.intro
  | @cons p q ps qs r t ih =>
   obtain ⟨h1,h2,_⟩:=r;by_cases e:p.1=k
   ·have e':q.1=k:=h1.symm.trans e;have b:atKey (q::qs) k=some q.2:=by simp [atKey,List.find?_cons,e']
    rw [ja9 e,b];exact h2
   ·have e':¬ q.1=k:=λz=>e (h1.trans z);have b:atKey (q::qs) k=atKey qs k:=by simp [atKey,List.find?_cons,e']
    rw [zx e,b];exact ih
def j3n(P:Program)(w:World)(K:W.Frag):R2:=λx y H Q=>∃ a ae b k,y = .ref a/\jk8 P w K a ae/\x = .ref b/\H b=some (.tup (k.map kV))/\Q (.bl (zf ae k).isSome) H
theorem jz2(hu:X.A.units + 1 < cLine):OpR X (compareOp .In) (j3n X.prog X.w X.K):=by
 rintro pins s σ H x y v u Q I rx ry ⟨a,ae,b,k,rfl,d,rfl,eb,q⟩;cases ry;cases rx;obtain ⟨xs,m,rel⟩:=d.dic I.kIn;refine wpAny_in_heap (tupleKind_room_in1 hu) (jvi I.hok eb) d.1 m ?_;have z:=(rel k).isSome_eq
 rw [Option.isSome_map] at z;rw [<- z];exact ⟨.bl _,H,I.tok _,rfl,q⟩
def jzh(P:Program)(w:World)(K:W.Frag)(td ty:TE):TE:=λσ H Q=>td σ H λx H1=>ty σ H1 λy H2=>∃ a ae b k v,x = .ref a/\jk8 P w K a ae/\y = .ref b/\H2 b=some (.tup (k.map kV))/\zf ae k=some v/\Q v H2
theorem jut{o i:Expr}{td ty:TE}{pos:Pos}(hu:X.A.units + 1 < cLine)(ho:PE X o td)(hi:PE X i ty)(hs:jyp i):PE X (.Subscript o i pos) (jzh X.prog X.w X.K td ty):=by
 intro pins s σ H Q I h;refine jqb PySem.F.slot_dict_getitem.lookup hs (thn (ho pins s σ H _ I h) λu s1 ⟨x,H1,I1,rx,q1⟩=>thn (hi pins s1 σ H1 _ I1 q1) λiv s2 ⟨y,H2,I2,ry,a,ae,b,k,v,ex,d,ey,eb,l,q2⟩=>?_);subst ex ey;obtain rfl:u=Value.ref a:=rx;obtain rfl:iv=Value.ref b:=ry;obtain ⟨xs,m,rel⟩:=d.dic I2.kIn;obtain ⟨w',hw,rw'⟩:=vw.some_of (v:=v) (o:=(atKey xs k).map (·.2)) (by rw [<- l];exact rel k);obtain ⟨p,hp,hp2⟩:=Option.map_eq_some_iff.mp hw;refine ⟨m.typeIs,wpAny_getItem_heap (tupleKind_room_in1 hu) (jvi I2.hok eb) m hp ?_⟩;rw [hp2];exact ⟨v,H2,I2.tok _,rw',q2⟩
end
end L2
end
section
set_option maxRecDepth 100000
set_option maxHeartbeats 1000000
namespace L2
open PySem PySem.Spec PyProof.Rows
section
variable{X:Cx}{C fI:Addr}{fs:List Str}{o value:Expr}{f:Str}{pos pos':Pos}{ta tv:TE}
def j1x(C:Addr)(ta tv:TE)(f:Str):TS:=λD σ H=>tv σ H λy H1=>ta σ H1 λv H2=>∃ x,v = .ref x/\H2 x=some (XO C none x)/\∀ dx,H2 dx=none->dx≠x->D.nx σ (upd (upd H2 x (XO C (some dx) x)) dx (XD dx [(f,y)]))
def j1w(C:Addr)(ta tv:TE)(f:Str):TS:=λD σ H=>tv σ H λy H1=>ta σ H1 λv H2=>∃ x dx fs0,v = .ref x/\H2 x=some (XO C (some dx) x)/\H2 dx=some (XD dx fs0)/\fs0.length<=1000/\D.nx σ (upd H2 dx (XD dx (jah f y fs0)))
theorem jw5(q:jch X.K C fI fs=true)(hf:f∈fs)(hB:typeLookup (.type "Exception") f=pure none)(ha:PE X o ta)(hv:PE X value tv)(hs:swapsWith value (some (.Attribute o f pos')) pos.line X.env=pure false) :
  PS X (.Assign [.Attribute o f pos'] value pos) (j1x C ta tv f):=by
 intro pins s σ H D I h;refine plainObj_wpAny_Assign_Attribute (thn (hv pins s σ H _ I h) λu s1 ⟨y,H1,I1,ry,q1⟩=>thn (ha pins s1 σ H1 _ I1 q1) λov s2 ⟨v,H2,I2,rx,x,ex,e1,q2⟩=>?_) hs;subst ex;obtain rfl:ov=Value.ref x:=rx;exact j3l I2 e1 q hf hB ry λdx s3 n1 n2 I3=>⟨σ,_,I3,q2 dx n1 n2⟩
theorem jw4(q:jch X.K C fI fs=true)(hf:f∈fs)(hB:typeLookup (.type "Exception") f=pure none)(ha:PE X o ta)(hv:PE X value tv)(hs:swapsWith value (some (.Attribute o f pos')) pos.line X.env=pure false) :
  PS X (.Assign [.Attribute o f pos'] value pos) (j1w C ta tv f):=by
 intro pins s σ H D I h;refine plainObj_wpAny_Assign_Attribute (thn (hv pins s σ H _ I h) λu s1 ⟨y,H1,I1,ry,q1⟩=>thn (ha pins s1 σ H1 _ I1 q1) λov s2 ⟨v,H2,I2,rx,x,dx,fs0,ex,e1,e2,l,q2⟩=>?_) hs;subst ex;obtain rfl:ov=Value.ref x:=rx;exact j3k I2 e1 e2 q hf hB ry l λs3 I3=>⟨σ,_,I3,q2⟩
end
end L2
end
section
set_option autoImplicit false
namespace Cell
open Vanbka
def bw(t:Tok):Int:=if opening t.lex then 1 else if closing t.lex then -1 else 0
def bal:List Tok->Int
 | []=>0
 | t::r=>bw t + bal r
theorem jrb:∀ (c d:List Tok),bal (c ++ d)=bal c + bal d
 | [],d=>by simp [bal]
 | t::c,d=>by
  have ih:=jrb c d;simp only [List.cons_append,bal,ih];omega
def Con(ts r:List Tok)(z:Int)(m:Nat):Prop:=∃ c,ts=c ++ r/\bal c=z/\m<=c.length
theorem Con.refl(ts:List Tok):Con ts ts 0 0:=⟨[],rfl,rfl,Nat.zero_le _⟩
theorem Con.trans{a b c:List Tok}{z y:Int}{m k:Nat}(h:Con a b z m)(g:Con b c y k):Con a c (z + y) (m + k):=by
 obtain ⟨p,rfl,hp,lp⟩:=h;obtain ⟨q,rfl,hq,lq⟩:=g;refine ⟨p ++ q,by simp,by rw [jrb,hp,hq],?_⟩;rw [List.length_append];omega
theorem Con.to{a b:List Tok}{z y:Int}{m k:Nat}(h:Con a b z m)(e:z=y)(l:k<=m):Con a b y k:=by
 obtain ⟨p,h1,h2,h3⟩:=h;exact ⟨p,h1,h2.trans e,by omega⟩
theorem Con.len{a b:List Tok}{z:Int}{m:Nat}(h:Con a b z m):b.length + m<=a.length:=by
 obtain ⟨p,rfl,_,h3⟩:=h;rw [List.length_append];omega
theorem Con.one(t:Tok)(r:List Tok):Con (t::r) r (bw t) 1:=⟨[t],rfl,by simp [bal],by simp⟩
def Res{α:Type}(x:Except Nat (α×List Tok))(ts:List Tok)(z:Int)(m:Nat):Prop:=match x with
 | .ok (_,r)=>Con ts r z m
 | .error l=>l<=ts.length
def zc(x:Except Nat (List Tok))(ts:List Tok)(z:Int)(m:Nat):Prop:=match x with
 | .ok r=>Con ts r z m
 | .error l=>l<=ts.length
section
variable{α β:Type}{ts:List Tok}{z y:Int}{m k:Nat}
theorem Res.halt:Res (halt_ ts:Except Nat (α×List Tok)) ts z m:=Nat.le_refl _
theorem Res.ret{a:α}{r:List Tok}:Res (Except.ok (a,r)) r 0 0:=Con.refl r
theorem Res.bind{x:Except Nat (α×List Tok)}{f:α×List Tok->Except Nat (β×List Tok)}(hx:Res x ts z m)(hf:∀ a r,x = .ok (a,r)->Res (f (a,r)) r y k):Res (x >>= f) ts (z + y) (m + k):=by
 cases x with
 | error l=>exact hx
 | ok p =>
  obtain ⟨a,r⟩:=p;have hx:Con ts r z m:=hx
  have q:=hf a r rfl;show Res (f (a,r)) ts _ _
  cases e:f (a,r) with
  | error l =>
   rw [e] at q;have q:l<=r.length:=q
   have:=hx.len;show l<=ts.length
   omega
  | ok p2 =>
   rw [e] at q;exact hx.trans q
theorem zc.bind{x:Except Nat (List Tok)}{f:List Tok->Except Nat (β×List Tok)}(hx:zc x ts z m)(hf:∀ r,x = .ok r->Res (f r) r y k):Res (x >>= f) ts (z + y) (m + k):=by
 cases x with
 | error l=>exact hx
 | ok r =>
  have hx:Con ts r z m:=hx;have q:=hf r rfl
  show Res (f r) ts _ _;cases e:f r with
  | error l =>
   rw [e] at q;have q:l<=r.length:=q
   have:=hx.len;show l<=ts.length
   omega
  | ok p2 =>
   rw [e] at q;exact hx.trans q
theorem Res.to{x:Except Nat (α×List Tok)}(h:Res x ts z m)(e:z=y)(l:k<=m):Res x ts y k:=by
 cases x with
 | error _=>exact h
 | ok p=>exact Con.to h e l
theorem Res.after{x:Except Nat (α×List Tok)}{r:List Tok}(c:Con ts r z m)(h:Res x r y k):Res x ts (z + y) (m + k):=by
 cases x with
 | error l =>
  have h:l<=r.length:=h;have:=c.len
  show l<=ts.length;omega
 | ok p=>exact c.trans h
end
def sw(s:String):Int:=bw { lex:=.sign (b s),place:=0,len:=0 }
theorem jlw{s:String}{t:Tok}(h:isSign s t=true):bw t=sw s:=by
 have e:t.lex = .sign (b s):=by simpa [isSign] using h
 unfold sw bw;rw [e]
theorem jc4{w:Bytes}{t:Tok}(h:t.lex = .word w):bw t=0:=by
 unfold bw opening closing;rw [h];simp
theorem jdt{s:String}{t:Tok}(h:isWord s t=true):bw t=0:=jc4 (w:=b s) (by simpa [isWord] using h)
theorem jcc{p:Tok->Bool}{ts:List Tok}(h:next p ts=true):∃ t r,ts=t::r/\p t=true/\ts.drop 1=r:=by
 cases ts with
 | nil=>simp [next] at h
 | cons t r=>exact ⟨t,r,rfl,h,rfl⟩
theorem x6{s:String}{ts:List Tok}(h:next (isSign s) ts=true):Con ts (ts.drop 1) (sw s) 1:=by
 obtain ⟨t,r,rfl,hp,_⟩:=jcc h;rw [<- jlw hp];exact Con.one t r
theorem yi{s:String}{ts:List Tok}(h:next (isWord s) ts=true):Con ts (ts.drop 1) 0 1:=by
 obtain ⟨t,r,rfl,hp,_⟩:=jcc h;have:=Con.one t r
 rw [jdt hp] at this;exact this
theorem qt{s:String}{ts:List Tok}:zc (eat (isSign s) ts) ts (sw s) 1:=by
 unfold eat;split
 ·rename_i h;exact x6 h
 ·exact Nat.le_refl _
theorem jgt{s:String}{ts:List Tok}:zc (eat (isWord s) ts) ts 0 1:=by
 unfold eat;split
 ·rename_i h;exact yi h
 ·exact Nat.le_refl _
theorem jm3{ts:List Tok}{x:Bytes}(h:nameNext ts=some x):∃ t r,ts=t::r/\t.lex = .word x/\reserved.contains x=false:=by
 unfold nameNext at h;split at h
 ·rename_i w p l r;split at h
  ·cases h
  ·rename_i hr;cases h;exact ⟨_,_,rfl,rfl,by simpa using hr⟩
 ·cases h
theorem jjs{ts:List Tok}{x:Bytes}(h:nameNext ts=some x):Con ts (ts.drop 1) 0 1:=by
 obtain ⟨t,r,rfl,e,_⟩:=jm3 h;have:=Con.one t r
 rw [jc4 e] at this;exact this
theorem za{ts:List Tok}:Res (name ts) ts 0 1:=by
 unfold name;split
 ·rename_i x h;exact jjs h
 ·exact Nat.le_refl _
theorem jv2{n:Nat}{t:Tok}(h:t.lex = .num n):bw t=0:=by
 unfold bw opening closing;rw [h];simp
theorem jms{s:Bytes}{t:Tok}(h:t.lex = .quoted s):bw t=0:=by
 unfold bw opening closing;rw [h];simp
theorem jgs{ts:List Tok}:Res (number ts) ts 0 1:=by
 unfold number;split
 ·rename_i n p l r;have:=Con.one { lex:=.num n,place:=p,len:=l } r
  rw [jv2 rfl] at this;exact this
 ·exact Nat.le_refl _
theorem jgr{ts:List Tok}:Res (quoted ts) ts 0 1:=by
 unfold quoted;split
 ·rename_i n p l r;have:=Con.one { lex:=.quoted n,place:=p,len:=l } r
  rw [jms rfl] at this;exact this
 ·exact Nat.le_refl _
theorem jnj:sw "-"=0:=by decide +kernel
theorem jcx:sw ","=0:=by decide +kernel
theorem ji9:sw ":"=0:=by decide +kernel
theorem jfv:sw ";"=0:=by decide +kernel
theorem jm8:sw "="=0:=by decide +kernel
theorem j4k:sw "?"=0:=by decide +kernel
theorem jtx:sw "."=0:=by decide +kernel
theorem jd4:sw "("=1:=by decide +kernel
theorem jb1:sw ")" = -1:=by decide +kernel
theorem jrn:sw "["=1:=by decide +kernel
theorem jro:sw "]" = -1:=by decide +kernel
theorem jyu:sw "{"=1:=by decide +kernel
theorem j3j:sw "}" = -1:=by decide +kernel
theorem jht{ts:List Tok}:Res (whole ts) ts 0 1:=by
 unfold whole;split
 ·rename_i h;refine Res.to (Res.after (x6 h) (Res.bind (y:=0) (k:=0) jgs ?_)) (by rw [jnj];rfl) (by omega);intro a r _;exact Res.ret
 ·refine Res.to (Res.bind (y:=0) (k:=0) jgs ?_) rfl (by omega);intro a r _;exact Res.ret
theorem jdx:∀ (n:Nat) (ts:List Tok),Res (namesMore n ts) ts 0 0
 | 0,ts=>Con.refl ts
 | n + 1,ts=>by
  unfold namesMore;split
  ·rename_i h;refine Res.to (Res.after (x6 h) (Res.bind (y:=0 + 0) (k:=0 + 0) za ?_)) (by rw [jcx];rfl) (by omega);intro a r _;refine Res.bind (jdx n r) ?_;intro a r _;exact Res.ret
  ·exact Con.refl ts
theorem jf2:∀ (n:Nat) (ts:List Tok),Res (quotedMore n ts) ts 0 0
 | 0,ts=>Con.refl ts
 | n + 1,ts=>by
  unfold quotedMore;split
  ·rename_i h;refine Res.to (Res.after (x6 h) (Res.bind (y:=0 + 0) (k:=0 + 0) jgr ?_)) (by rw [jcx];rfl) (by omega);intro a r _;refine Res.bind (jf2 n r) ?_;intro a r _;exact Res.ret
  ·exact Con.refl ts
theorem jke{ts:List Tok}:Res (params ts) ts (-1) 1:=by
 unfold params;split
 ·rename_i h;exact (x6 h).to (by rw [jb1]) (Nat.le_refl _)
 ·refine Res.to (Res.bind (y:=0 + (sw ")" + 0)) (k:=0 + (1 + 0)) za ?_) (by rw [jb1];rfl) (by omega);intro a r _;refine Res.bind (jdx _ r) ?_;intro l r _;refine zc.bind qt ?_;intro r _;exact Res.ret
theorem jz3{k:Nat}{t:Tok}{o:Op}(h:opOf k t.lex=some o):bw t=0:=by
 unfold opOf at h;split at h
 ·rename_i e;exact jc4 e
 ·rename_i e;exact jc4 e
 all_goals first
  | (cases h;done)
  | (rename_i s e
     repeat' split at h
     all_goals first
      | (cases h;done)
      | (rename_i q;have q:=eq_of_beq q;subst q;unfold bw;rw [e];decide +kernel))
theorem jo3{k:Nat}{ts:List Tok}{o:Op}(h:opNext k ts=some o):Con ts (ts.drop 1) 0 1:=by
 cases ts with
 | nil=>simp [opNext] at h
 | cons t r =>
  have e:bw t=0:=jz3 h;have:=Con.one t r
  rw [e] at this;exact this
end Cell
end
section
set_option autoImplicit false
namespace Cell
open Vanbka
structure jyr(n:Nat):Prop where
 expr:∀ ts,Res (expr n ts) ts 0 1
 line:∀ k ts,Res (line n k ts) ts 0 1
 chain:∀ k x ts,Res (chain n k x ts) ts 0 0
 reach:∀ x ts,Res (reach n x ts) ts 0 0
 listed:∀ s ts,Res (listed n s ts) ts (sw s) 1
 more:∀ ts,Res (more n ts) ts 0 0
 fields:∀ ts,Res (fields n ts) ts 0 1
 simple:∀ ts,Res (simple n ts) ts 0 1
 parts:∀ k ts,Res (parts n k ts) ts (-1) 1
 inBrackets:∀ ts,Res (inBrackets n ts) ts (-1) 1
 function:∀ ts,Res (function n ts) ts 0 1
 block:∀ ts,Res (block n ts) ts 0 1
 statements:∀ ts,Res (statements n ts) ts 0 0
 statement:∀ ts,Res (statement n ts) ts 0 1
theorem j37:jyr 0:=by
 constructor <;> intros <;> simp only [expr,line,chain,reach,listed,more,fields,simple,parts,inBrackets,function,block,statements,statement] <;> exact Res.halt
theorem ja2{t:Tok}{r:List Tok}{z:Int}(e:bw t=z):Con (t::r) r z 1:=e▸Con.one t r
section
variable{n:Nat}(F:jyr n)
include F
theorem jvu(ts:List Tok):Res (expr (n + 1) ts) ts 0 1:=by
 rw [expr];refine Res.to (Res.bind (y:=0) (k:=0) (F.line 1 ts) ?_) rfl (by omega);intro c r _;dsimp only;split
 ·rename_i h;refine Res.to (Res.after (x6 h) (Res.bind (y:=sw ":" + (0 + 0)) (k:=1 + (1 + 0)) (F.line 1 _) ?_)) (by rw [j4k,ji9];rfl) (by omega);intro x r _;refine zc.bind qt ?_;intro r _;refine Res.bind (F.line 1 r) ?_;intro y r _;exact Res.ret
 ·exact Res.ret
theorem jvt(k:Nat)(ts:List Tok):Res (line (n + 1) k ts) ts 0 1:=by
 rw [line];split
 ·split
  ·rename_i h;refine Res.to (Res.after (yi h) (Res.bind (y:=0) (k:=0) (F.line 4 _) ?_)) rfl (by omega);intro e r _;exact Res.ret
  ·exact F.line 4 ts
 split
 ·refine Res.to (Res.bind (y:=0) (k:=0) (F.line 5 ts) ?_) rfl (by omega);intro x r _;dsimp only;split
  ·rename_i o h;refine Res.to (Res.after (jo3 h) (Res.bind (y:=0) (k:=0) (F.line 5 _) ?_)) rfl (by omega);intro y r _;exact Res.ret
  ·exact Res.ret
 split
 ·split
  ·rename_i h;refine Res.to (Res.after (x6 h) (Res.bind (y:=0) (k:=0) (F.line 9 _) ?_)) (by rw [jnj];rfl) (by omega);intro e r _;exact Res.ret
  ·exact F.line 9 ts
 split
 ·refine Res.to (Res.bind (y:=0) (k:=0) (F.simple ts) ?_) rfl (by omega);intro x r _;exact F.reach x r
 ·refine Res.to (Res.bind (y:=0) (k:=0) (F.line _ ts) ?_) rfl (by omega);intro x r _;exact F.chain k x r
theorem js4(k:Nat)(x:Expr)(ts:List Tok):Res (chain (n + 1) k x ts) ts 0 0:=by
 rw [chain];split
 ·rename_i o h;refine Res.to (Res.after (jo3 h) (Res.bind (y:=0) (k:=0) (F.line _ _) ?_)) rfl (by omega);intro y r _;exact F.chain k _ r
 ·exact Con.refl ts
theorem js2(x:Expr)(ts:List Tok):Res (reach (n + 1) x ts) ts 0 0:=by
 rw [reach];split
 ·rename_i h;refine Res.to (Res.after (x6 h) (Res.bind (y:=0) (k:=0) (F.listed ")" _) ?_)) (by rw [jd4,jb1];rfl) (by omega);intro l r _;exact F.reach _ r
 split
 ·rename_i h;refine Res.to (Res.after (x6 h) (Res.bind (y:=sw "]" + 0) (k:=1 + 0) (F.expr _) ?_)) (by rw [jrn,jro];rfl) (by omega);intro e r _;refine zc.bind qt ?_;intro r _;exact F.reach _ r
 split
 ·rename_i h;refine Res.to (Res.after (x6 h) (Res.bind (y:=0) (k:=0) za ?_)) (by rw [jtx];rfl) (by omega);intro y r _;exact F.reach _ r
 ·exact Con.refl ts
theorem jp3(s:String)(ts:List Tok):Res (listed (n + 1) s ts) ts (sw s) 1:=by
 rw [listed];split
 ·rename_i h;exact x6 h
 ·refine Res.to (Res.bind (y:=0 + (sw s + 0)) (k:=0 + (1 + 0)) (F.expr _) ?_) (by omega) (by omega);intro e r _;refine Res.bind (F.more r) ?_;intro l r _;refine zc.bind qt ?_;intro r _;exact Res.ret
theorem jvs(ts:List Tok):Res (more (n + 1) ts) ts 0 0:=by
 rw [more];split
 ·rename_i h;refine Res.to (Res.after (x6 h) (Res.bind (y:=0 + 0) (k:=0 + 0) (F.expr _) ?_)) (by rw [jcx];rfl) (by omega);intro e r _;refine Res.bind (F.more r) ?_;intro l r _;exact Res.ret
 ·exact Con.refl ts
theorem jp4(ts:List Tok):Res (fields (n + 1) ts) ts 0 1:=by
 rw [fields];refine Res.to (Res.bind (y:=sw ":" + (0 + 0)) (k:=1 + (1 + 0)) za ?_) (by rw [ji9];rfl) (by omega);intro x r _;refine zc.bind qt ?_;intro r _;refine Res.bind (F.expr r) ?_;intro e r _;dsimp only;split
 ·rename_i h;refine Res.to (Res.after (x6 h) (Res.bind (y:=0) (k:=0) (F.fields _) ?_)) (by rw [jcx];rfl) (by omega);intro l r _;exact Res.ret
 ·exact Res.ret
theorem jp1(ts:List Tok):Res (simple (n + 1) ts) ts 0 1:=by
 rw [simple.eq_def];dsimp only;split
 ·exact ja2 (jv2 rfl)
 ·exact ja2 (jms rfl)
 ·rename_i t r _ _;split
  ·rename_i h;refine Res.to (Res.after (ja2 (jlw h)) (Res.bind (y:=0) (k:=0) (F.listed "]" r) ?_)) (by rw [jrn,jro];rfl) (by omega);intro l r _;exact Res.ret
  split
  ·rename_i h;exact Res.to (Res.after (ja2 (jlw h)) (F.inBrackets r)) (by rw [jd4];rfl) (by omega)
  split
  ·rename_i h;exact Res.to (Res.after (ja2 (jdt h)) (F.function r)) rfl (by omega)
  split
  ·rename_i h;exact ja2 (jdt h)
  split
  ·rename_i h;exact ja2 (jdt h)
  split
  ·rename_i h;exact ja2 (jdt h)
  split
  ·rename_i x h;exact jjs h
  split
  ·rename_i p k h;have hw:∃ w,t.lex = .word w:=by
    cases e:wordNext (t::r) with
    | none=>rw [e] at h;cases h
    | some w =>
     unfold wordNext at e;split at e
     ·rename_i w' _ _ _ q;exact ⟨w',by have:=(List.cons.inj q).1;rw [this]⟩
     ·cases e
   obtain ⟨w,hw⟩:=hw;refine Res.to (Res.after (ja2 (jc4 hw)) (zc.bind (y:=-1 + 0) (k:=1 + 0) qt ?_)) (by rw [jd4];rfl) (by omega);intro r _;refine Res.bind (F.parts _ r) ?_;intro l r _;exact Res.ret
  ·exact Res.halt
 ·exact Res.halt
theorem js3(k:Nat)(ts:List Tok):Res (parts (n + 1) k ts) ts (-1) 1:=by
 rw [parts];refine Res.to (Res.bind (y:=-1) (k:=0) (F.expr ts) ?_) rfl (by omega);intro e r _;dsimp only;split
 ·refine Res.to (zc.bind (y:=0) (k:=0) qt ?_) (by rw [jb1];rfl) (by omega);intro r _;exact Res.ret
 ·refine Res.to (zc.bind (y:=-1 + 0) (k:=1 + 0) qt ?_) (by rw [jcx];rfl) (by omega);intro r _;refine Res.bind (F.parts _ r) ?_;intro l r _;exact Res.ret
theorem jky(ts:List Tok):Res (inBrackets (n + 1) ts) ts (-1) 1:=by
 rw [inBrackets];split
 ·rename_i h;refine Res.to (Res.after (x6 h) (zc.bind (y:=0) (k:=0) qt ?_)) (by rw [ji9,jb1];rfl) (by omega);intro r _;exact Res.ret
 split
 ·refine Res.to (Res.bind (y:=sw ")" + 0) (k:=1 + 0) (F.fields ts) ?_) (by rw [jb1];rfl) (by omega);intro l r _;refine zc.bind qt ?_;intro r _;exact Res.ret
 ·refine Res.to (Res.bind (y:=sw ")" + 0) (k:=1 + 0) (F.expr ts) ?_) (by rw [jb1];rfl) (by omega);intro l r _;refine zc.bind qt ?_;intro r _;exact Res.ret
theorem js5(ts:List Tok):Res (block (n + 1) ts) ts 0 1:=by
 rw [block];refine Res.to (zc.bind (y:=0 + (sw "}" + 0)) (k:=0 + (1 + 0)) qt ?_) (by rw [jyu,j3j];rfl) (by omega);intro r _;refine Res.bind (F.statements r) ?_;intro s r _;refine zc.bind qt ?_;intro r _;exact Res.ret
theorem jm4(ts:List Tok):Res (function (n + 1) ts) ts 0 1:=by
 rw [function];dsimp only;cases e:nameNext ts with
 | none =>
  refine Res.to (zc.bind (y:=-1 + (0 + 0)) (k:=1 + (1 + 0)) qt ?_) (by rw [jd4];rfl) (by omega);intro r _;refine Res.bind jke ?_;intro l r _;refine Res.bind (F.block r) ?_;intro s r _;exact Res.ret
 | some x =>
  refine Res.to (Res.after (jjs e) (zc.bind (y:=-1 + (0 + 0)) (k:=1 + (1 + 0)) qt ?_)) (by rw [jd4];rfl) (by omega);intro r _;refine Res.bind jke ?_;intro l r _;refine Res.bind (F.block r) ?_;intro s r _;exact Res.ret
theorem jkx(ts:List Tok):Res (statements (n + 1) ts) ts 0 0:=by
 rw [statements];split
 ·exact Con.refl ts
 ·refine Res.to (Res.bind (y:=0 + 0) (k:=0 + 0) (F.statement ts) ?_) rfl (by omega);intro s r _;refine Res.bind (F.statements r) ?_;intro l r _;exact Res.ret
theorem jnc{ts:List Tok}{w:Bytes}(h:wordNext ts=some w):Con ts (ts.drop 1) 0 1:=by
 unfold wordNext at h;split at h
 ·exact ja2 (jc4 rfl)
 ·cases h
theorem jlt(ts:List Tok):Res (statement (n + 1) ts) ts 0 1:=by
 rw [statement];dsimp only;split
 ·rename_i h;refine Res.to (Res.after (yi h) (Res.bind (y:=sw "=" + (0 + (sw ";" + 0))) (k:=0) za ?_)) (by rw [jm8,jfv];rfl) (by omega);intro x r _;refine Res.to (zc.bind (y:=0 + (sw ";" + 0)) (k:=0) qt ?_) rfl (by omega);intro r _;refine Res.to (Res.bind (y:=sw ";" + 0) (k:=0) (F.expr r) ?_) rfl (by omega);intro e r _;refine Res.to (zc.bind (y:=0) (k:=0) qt ?_) rfl (by omega);intro r _;exact Res.ret
 split
 ·rename_i h;refine Res.to (Res.after (yi h) (Res.bind (y:=sw "=" + (0 + (sw ";" + 0))) (k:=0) za ?_)) (by rw [jm8,jfv];rfl) (by omega);intro x r _;refine Res.to (zc.bind (y:=0 + (sw ";" + 0)) (k:=0) qt ?_) rfl (by omega);intro r _;refine Res.to (Res.bind (y:=sw ";" + 0) (k:=0) (F.expr r) ?_) rfl (by omega);intro e r _;refine Res.to (zc.bind (y:=0) (k:=0) qt ?_) rfl (by omega);intro r _;exact Res.ret
 split
 ·rename_i h;refine Res.to (Res.after (yi h) (Res.bind (y:=0 + 0) (k:=0) (F.expr _) ?_)) rfl (by omega);intro c r _;refine Res.to (Res.bind (y:=0) (k:=0) (F.block r) ?_) rfl (by omega);intro x r _;dsimp only;split
  ·rename_i h2;refine Res.to (Res.after (yi h2) (Res.bind (y:=0) (k:=0) (F.block _) ?_)) rfl (by omega);intro y r _;exact Res.ret
  ·exact Res.ret
 split
 ·rename_i h;refine Res.to (Res.after (yi h) (Res.bind (y:=0 + 0) (k:=0) (F.expr _) ?_)) rfl (by omega);intro c r _;refine Res.to (Res.bind (y:=0) (k:=0) (F.block r) ?_) rfl (by omega);intro x r _;exact Res.ret
 split
 ·rename_i h;refine Res.to (Res.after (yi h) (Res.bind (y:=0 + (0 + (0 + 0))) (k:=0) za ?_)) rfl (by omega);intro x r _;refine Res.to (zc.bind (y:=0 + (0 + 0)) (k:=0) jgt ?_) rfl (by omega);intro r _;refine Res.to (Res.bind (y:=0 + 0) (k:=0) (F.expr r) ?_) rfl (by omega);intro e r _;refine Res.to (Res.bind (y:=0) (k:=0) (F.block r) ?_) rfl (by omega);intro l r _;exact Res.ret
 split
 ·rename_i h;refine Res.to (Res.after (yi h) (Res.bind (y:=0) (k:=0) za ?_)) rfl (by omega);intro x r _;refine Res.to (zc.bind (y:=0) (k:=0) qt ?_) (by rw [jm8];rfl) (by omega);intro r _;refine Res.to (Res.bind (y:=0) (k:=0) jht ?_) rfl (by omega);intro v r _;refine Res.to (zc.bind (y:=0) (k:=0) jgt ?_) rfl (by omega);intro r _;refine Res.to (Res.bind (y:=0) (k:=0) jht ?_) rfl (by omega);intro lo r _;refine Res.to (zc.bind (y:=0) (k:=0) qt ?_) (by rw [jcx];rfl) (by omega);intro r _;refine Res.to (Res.bind (y:=0) (k:=0) jht ?_) rfl (by omega);intro hi r _;refine Res.to (zc.bind (y:=0) (k:=0) qt ?_) (by rw [jfv];rfl) (by omega);intro r _;exact Res.ret
 split
 ·rename_i h;refine Res.to (Res.after (yi h) (Res.bind (y:=0) (k:=0) za ?_)) rfl (by omega);intro x r _;refine Res.to (zc.bind (y:=0) (k:=0) qt ?_) (by rw [jm8];rfl) (by omega);intro r _;refine Res.to (Res.bind (y:=0) (k:=0) jgs ?_) rfl (by omega);intro v r _;refine Res.to (zc.bind (y:=0) (k:=0) jgt ?_) rfl (by omega);intro r _;refine Res.to (Res.bind (y:=0) (k:=0) jgr ?_) rfl (by omega);intro o r _;refine Res.to (Res.bind (y:=0) (k:=0) (jf2 _ r) ?_) rfl (by omega);intro l r _;refine Res.to (zc.bind (y:=0) (k:=0) qt ?_) (by rw [jfv];rfl) (by omega);intro r _;exact Res.ret
 split
 ·rename_i w h;have hw:∃ u,wordNext ts=some u:=by
   cases e:wordNext ts with
   | none=>rw [e] at h;cases h
   | some u=>exact ⟨u,rfl⟩
  obtain ⟨u,hu⟩:=hw;refine Res.to (Res.after (jnc F hu) (Res.bind (y:=sw ";" + 0) (k:=0) (F.expr _) ?_)) (by rw [jfv];rfl) (by omega);intro e r _;refine Res.to (zc.bind (y:=0) (k:=0) qt ?_) rfl (by omega);intro r _;exact Res.ret
 ·exact Res.halt
end
theorem jae:∀ n,jyr n
 | 0=>j37
 | n + 1=>by
  have F:=jae n;exact ⟨jvu F,jvt F,js4 F,js2 F,jp3 F,jvs F,jp4 F,jp1 F,js3 F,jky F,jm4 F,js5 F,jkx F,jlt F⟩
end Cell
end
section
set_option autoImplicit false
namespace Cell
open Vanbka
theorem j04{t:Tok}(h:opening t.lex=true):bw t=1:=by unfold bw;rw [if_pos h]
theorem jya{h:Int}:∀ {c r:List Tok},tooDeepAt h (c ++ r)=none->tooDeepAt (h + bal c) r=none:=by
 intro c;induction c generalizing h with
 | nil=>intro r q;simpa [bal] using q
 | cons t c ih =>
  intro r q;rw [List.cons_append,tooDeepAt] at q;have e:bal (t::c)=bw t + bal c:=rfl
  rw [e];split at q
  ·rename_i o;split at q
   ·cases q
   ·have:=ih q;rw [j04 o,show h + (1 + bal c)=h + 1 + bal c by omega];exact this
  ·rename_i o;split at q
   ·rename_i cl;have:=ih q
    have z:bw t = -1:=by unfold bw;rw [if_neg o,if_pos cl]
    rw [z,show h + (-1 + bal c)=h - 1 + bal c by omega];exact this
   ·rename_i cl;have z:bw t=0:=by unfold bw;rw [if_neg o,if_neg cl]
    rw [z,show h + (0 + bal c)=h + bal c by omega];exact ih q
theorem Con.deep{h:Int}{ts r:List Tok}{z:Int}{m:Nat}(c:Con ts r z m)(q:tooDeepAt h ts=none):tooDeepAt (h + z) r=none:=by
 obtain ⟨p,rfl,rfl,_⟩:=c;exact jya q
theorem jcf{h:Int}{t:Tok}{r:List Tok}(o:opening t.lex=true)(q:tooDeepAt h (t::r)=none):h < 24:=by
 rw [tooDeepAt,if_pos o] at q;split at q
 ·cases q
 ·omega
end Cell
end
section
set_option autoImplicit false
namespace Cell
open Vanbka
def skip:Bool->Bytes->Nat
 | _,[]=>0
 | cm,c::r=>if c=10 then skip false r + 1 else if c=35 then skip true r + 1 else if c≠32/\cm=false then 0 else skip cm r + 1
theorem jfz:∀ (cm:Bool) (t:Bytes),skip cm t<=t.length
 | _,[]=>Nat.le_refl _
 | cm,c::r=>by
  have h1:=jfz false r;have h2:=jfz true r
  have h3:=jfz cm r;rw [skip,List.length_cons]
  repeat' split
  all_goals omega
theorem jer:∀ (t:Bytes) (cm:Bool),t.drop (skip cm t)=[]\/∃ c r,t.drop (skip cm t)=c::r/\c≠10/\c≠32/\c≠35
 | [],_=>.inl rfl
 | c::r,cm=>by
  rw [skip];split
  ·rw [List.drop_succ_cons];exact jer r false
  split
  ·rw [List.drop_succ_cons];exact jer r true
  split
  ·rename_i h1 h2 h3;exact .inr ⟨c,r,rfl,h1,h3.1,h2⟩
  ·rw [List.drop_succ_cons];exact jer r cm
theorem jce{t:Bytes}{l:Lex}{k:Nat}(h:lexAt t=some (l,k)):1<=k/\k<=t.length:=by
 have tw:∀ (p:UInt8->Bool) (u:Bytes),(u.takeWhile p).length<=u.length:=λp u=>by
  have:=List.takeWhile_prefix p (l:=u);exact this.length_le
 have qf:∀ (u:Bytes) (x:Bytes×Nat),quotedFrom u=some x->x.2<=u.length:=by
  intro u;induction u using quotedFrom.induct <;> intro x hx <;> simp only [quotedFrom,Option.map_eq_some_iff,Option.some.injEq,reduceCtorEq] at hx
  all_goals first
   | (subst hx;simp)
   | (obtain ⟨y,hy,rfl⟩:=hx;rename_i ih _ ;have:=ih _ hy;simp only [List.length_cons];omega)
   | (obtain ⟨y,hy,rfl⟩:=hx;rename_i ih;have:=ih _ hy;simp only [List.length_cons];omega)
   | skip
 unfold lexAt at h;split at h
 ·cases h
 ·rename_i c r;split at h
  ·rename_i hl;dsimp only at h;split at h
   ·cases h;have hw:wordByte c=true:=by unfold wordByte;rw [hl];rfl
    refine ⟨?_,tw _ _⟩;rw [List.takeWhile_cons,if_pos hw,List.length_cons];omega
   ·cases h
  split at h
  ·rename_i hd;dsimp only at h;split at h
   ·cases h;refine ⟨?_,tw _ _⟩;rw [List.takeWhile_cons,if_pos hd,List.length_cons];omega
   ·cases h
  split at h
  ·cases e:quotedFrom r with
   | none=>rw [e] at h;cases h
   | some x =>
    rw [e] at h;cases h;have:=qf r x e
    rw [List.length_cons];omega
  split at h
  ·rename_i hc;cases h;refine ⟨by omega,?_⟩;have hm:(c::r).take 2∈doubleSigns:=by simpa using hc
   have:∀ s∈doubleSigns,s.length=2:=by decide
   have:=this _ hm;rw [List.length_take] at this;omega
  split at h
  ·cases h;rw [List.length_cons];omega
  ·cases h
end Cell
end
section
set_option autoImplicit false
namespace Cell
open Vanbka
theorem jc7:∀ (n m p:Nat) (t:Bytes),t.length < n->t.length < m->tokensFrom n p t=tokensFrom m p t:=by
 intro n;induction n with
 | zero=>intro m p t h;omega
 | succ n ih =>
  intro m p t h1 h2;obtain ⟨m,rfl⟩:∃ k,m=k + 1:=⟨m - 1,by omega⟩
  cases t with
  | nil=>rfl
  | cons c r =>
   rw [List.length_cons] at h1 h2;rw [tokensFrom,tokensFrom];split
   ·exact ih m (p + 1) r (by omega) (by omega)
   split
   ·rename_i hb hh;dsimp only;have hk:1<=((c::r).takeWhile λx=>x != 10).length:=by
     have hc:c=35:=by simpa using hh
     subst hc;rw [List.takeWhile_cons,if_pos (by decide),List.length_cons];omega
    have hl:((c::r).drop ((c::r).takeWhile λx=>x != 10).length).length < n:=by rw [List.length_drop,List.length_cons];omega
    have hl2:((c::r).drop ((c::r).takeWhile λx=>x != 10).length).length < m:=by rw [List.length_drop,List.length_cons];omega
    exact ih m _ _ hl hl2
   ·cases e:lexAt (c::r) with
    | none=>rfl
    | some x =>
     obtain ⟨l,k⟩:=x;dsimp only;have hk:=jce e
     rw [ih m (p + k) ((c::r).drop k) (by rw [List.length_drop,List.length_cons];omega) (by rw [List.length_drop,List.length_cons];omega)]
def z0(t:Bytes)(q:Nat):Except Nat (List Tok):=tokensFrom (t.length + 1) q (t.drop q)
theorem jtr(t:Bytes):tokens t=z0 t 0:=rfl
theorem jts{t:Bytes}{q:Nat}(h:t.length<=q):z0 t q = .ok []:=by
 unfold z0;rw [List.drop_eq_nil_of_le h];rfl
theorem drop_one{t r:Bytes}{q:Nat}{c:UInt8}(h:t.drop q=c::r):t.drop (q + 1)=r/\q < t.length:=by
 refine ⟨?_,?_⟩
 ·rw [<- List.drop_drop,h];rfl
 ·rcases Nat.lt_or_ge q t.length with z | z
  ·exact z
  ·rw [List.drop_eq_nil_of_le z] at h;cases h
theorem jo5:∀ (r:Bytes),skip true r=(r.takeWhile λx=>x != 10).length + skip false (r.drop (r.takeWhile λx=>x != 10).length):=by
 intro r;induction r with
 | nil=>rfl
 | cons c r ih =>
  rw [List.takeWhile_cons];by_cases hc:c=10
  ·subst hc;rw [if_neg (by decide)];simp only [List.length_nil,List.drop_zero,Nat.zero_add];rw [skip,if_pos rfl,skip,if_pos rfl]
  ·have hb:(c != 10)=true:=by simpa using hc
   rw [if_pos hb,List.length_cons,List.drop_succ_cons,skip,if_neg hc];split
   ·rw [ih];omega
   ·rw [if_neg (by simp),ih];omega
theorem jrj(t:Bytes):∀ (n q:Nat),t.length - q<=n->z0 t q=z0 t (q + skip false (t.drop q)):=by
 intro n;induction n with
 | zero =>
  intro q h;rw [List.drop_eq_nil_of_le (show t.length<=q by omega)];rfl
 | succ n ih =>
  intro q h;cases e:t.drop q with
  | nil=>rfl
  | cons c r =>
   obtain ⟨h1,h2⟩:=drop_one e;have e0:z0 t q=tokensFrom (t.length + 1) q (c::r):=by unfold z0;rw [e]
   have lr:r.length + 1 + q=t.length:=by
    have:=congrArg List.length e;rw [List.length_drop,List.length_cons] at this;omega
   rw [skip];split
   ·rename_i hc;subst hc;rw [e0,tokensFrom,if_pos (by decide),jc7 _ (t.length + 1) (q + 1) r (by omega) (by omega)];have:tokensFrom (t.length + 1) (q + 1) r=z0 t (q + 1):=by unfold z0;rw [h1]
    rw [this,ih (q + 1) (by omega),h1]
    congr 1
    omega
   split
   ·rename_i hc;subst hc;rw [e0,tokensFrom,if_neg (by decide),if_pos (by decide)];dsimp only;have hk:(((35:UInt8)::r).takeWhile λx=>x != 10).length=(r.takeWhile λx=>x != 10).length + 1:=by
     rw [List.takeWhile_cons,if_pos (by decide),List.length_cons]
    have hd:((35:UInt8)::r).drop (((35:UInt8)::r).takeWhile λx=>x != 10).length=t.drop (q + ((r.takeWhile λx=>x != 10).length + 1)):=by
     rw [hk,<- e,List.drop_drop]
    rw [jc7 _ (t.length + 1) _ _ (by rw [hk,List.drop_succ_cons,List.length_drop];omega) (by rw [hk,List.drop_succ_cons,List.length_drop];omega),hd,hk];have:tokensFrom (t.length + 1) (q + ((r.takeWhile λx=>x != 10).length + 1)) (t.drop (q + ((r.takeWhile λx=>x != 10).length + 1)))=z0 t (q + ((r.takeWhile λx=>x != 10).length + 1)):=rfl
    rw [this,ih _ (by omega)];have hd2:t.drop (q + ((r.takeWhile λx=>x != 10).length + 1))=r.drop (r.takeWhile λx=>x != 10).length:=by
     rw [<- hd,hk,List.drop_succ_cons]
    rw [hd2,jo5 r]
    congr 1
    omega
   split
   ·rfl
   ·rename_i h3 h4 h5;have hb:blank c=true:=by
     unfold blank;by_cases z:c=32
     ·subst z;decide
     ·exact absurd ⟨z,rfl⟩ h5
    rw [e0,tokensFrom,if_pos hb,jc7 _ (t.length + 1) (q + 1) r (by omega) (by omega)];have:tokensFrom (t.length + 1) (q + 1) r=z0 t (q + 1):=by unfold z0;rw [h1]
    rw [this,ih (q + 1) (by omega),h1]
    congr 1
    omega
theorem jj1(t:Bytes)(q:Nat):z0 t q=z0 t (q + skip false (t.drop q)):=jrj t _ q (Nat.le_refl _)
theorem jri{t r:Bytes}{q:Nat}{c:UInt8}(e:t.drop q=c::r)(h1:c≠10)(h2:c≠32)(h3:c≠35) :
  z0 t q=match lexAt (t.drop q) with
   | none=>.error q
   | some (l,k)=>match z0 t (q + k) with
    | .error z=>.error z
    | .ok ts=>.ok ({ lex:=l,place:=q,len:=k }::ts):=by
 have hb:¬ blank c=true:=by unfold blank;simp [h1,h2]
 have hh:¬ (c == 35)=true:=by simpa using h3
 have e0:z0 t q=tokensFrom (t.length + 1) q (c::r):=by unfold z0;rw [e]
 rw [e0,tokensFrom,if_neg hb,if_neg hh,e];cases el:lexAt (c::r) with
 | none=>rfl
 | some x =>
  obtain ⟨l,k⟩:=x;dsimp only;have hk:=jce el
  have lr:r.length + 1 + q=t.length:=by
   have:=congrArg List.length e;rw [List.length_drop,List.length_cons] at this;have:=(drop_one e).2
   omega
  rw [jc7 _ (t.length + 1) (q + k) ((c::r).drop k) (by rw [List.length_drop,List.length_cons];omega) (by rw [List.length_drop,List.length_cons];omega)];have:(c::r).drop k=t.drop (q + k):=by rw [<- e,List.drop_drop]
  rw [this];rfl
end Cell
end
section
set_option maxRecDepth 100000
set_option maxHeartbeats 4000000
namespace Prg
open PySem L2
def top(i:Nat):PySem.Stmt:=PySem.Challenge.pw_celltexts_s09_weigh.main.body.getD i (.Pass ⟨0,0,0,0⟩)
abbrev jam:PySem.Stmt:=ja0 (top 6) 0
abbrev je8:PySem.Stmt:=top 12
abbrev jbd:PySem.Stmt:=ja0 (top 13) 0
abbrev vy:PySem.Stmt:=ja0 (top 21) 0
abbrev jru:PySem.Stmt:=ja0 (top 21) 1
abbrev jfh:PySem.Stmt:=ja0 (top 21) 2
abbrev jrw:PySem.Stmt:=ja0 (top 21) 3
abbrev jfm:PySem.Stmt:=ja0 (top 21) 4
abbrev jlh:PySem.Stmt:=ja0 (top 21) 5
abbrev jrt:PySem.Stmt:=ja0 (top 21) 6
abbrev jbl:PySem.Stmt:=ja0 (top 67) 0
abbrev jfl:PySem.Stmt:=top 68
abbrev jgo:PySem.Stmt:=top 69
abbrev jhq:PySem.Stmt:=top 71
abbrev jhs:PySem.Stmt:=top 72
abbrev jjf:PySem.Stmt:=top 73
abbrev jfi:PySem.Stmt:=top 74
abbrev jgq:PySem.Stmt:=top 75
abbrev jjg:PySem.Stmt:=top 76
abbrev jfe:PySem.Stmt:=top 77
abbrev jgp:PySem.Stmt:=top 78
abbrev jjh:PySem.Stmt:=top 79
def CI(mg:Str->Option Value)(x:Str)(i:Int):Prop:=∃ t,mg x=some (.int i t)
theorem qz{X:Cx}{x:Str}{i:Int}{pos:Pos}(c:CI X.mg x i)(hg:Gl X x)(hd:(x == ("__debug__":Str))=false:=by decide):PE X (.Name x pos) (tC (.int i)):=by
 obtain ⟨t,h⟩:=c;exact jll hg h ⟨t,rfl⟩ hd
theorem jvb:typeLookup (.type "Exception") "number"=pure none:=by rw [typeLookup_type,builtinLookup_eq_fast];kernel_rfl
theorem j0p:typeLookup (.type "Exception") "told"=pure none:=by rw [typeLookup_type,builtinLookup_eq_fast];kernel_rfl
section
variable{P:Program}{w:World}{K:W.Frag}{mg:Str->Option Value}{base:Heap}{f CF fI:Addr}{fd au:FuncData}
abbrev xfs(n p:Int):List (Str×V):=[("number",.int n),("told",.int p)]
def jwm(CF:Addr):Sp:=λvs H Q _=>∃ x n p,vs=[.ref x,.int n,.int p]/\H x=some (XO CF none x)/\
 ∀ dx,H dx=none->dx≠x->Q .non (upd (upd (upd H x (XO CF (some dx) x)) dx (XD dx [("number",.int n)])) dx (XD dx (xfs n p)))
theorem j4o:jv ["self", "number", "told"] ["self", "number", "told"] (jj jam):=fs_
theorem j3u(F:Fun K "__init__" "Fault.__init__" jam f fd)(q:jch K CF f ["number", "told"]=true):xb P w K mg base (CXF P w) 1 f fd ["self", "number", "told"] (jwm CF):=by
 refine F.okF (k:=0) j4o (λvs H Q E h=>?_) (λac A outer s H vs Q E hr h=>?_)
 ·obtain ⟨x,n,p,rfl,_⟩:=h;rfl
 obtain ⟨x,n,p,rfl,hx,k⟩:=h;refine ⟨_,jc (jw5 q (.head _) jvb (pv 0) (pv 1) rfl) (je (jw4 q (.tail _ (.head _)) j0p (pv 0) (pv 2) rfl)),?_⟩;refine ⟨_,rfl,_,rfl,x,rfl,hx,λdx n1 n2=>?_⟩;exact ⟨_,rfl,_,rfl,x,dx,_,rfl,by rw [jm (Ne.symm n2),jd],jd,(by show 1<=1000;decide),k dx n1 n2⟩
def Err(CF:Addr)(E:XK)(n p:Int):Prop:=∀ dx H',H' dx=some (XD dx (xfs n p))->E (.ref CF) (some dx) H'
theorem yz{E:XK}{H1:Hp}{n p:Int}(hE:Err CF E n p):([V.int n,.int p]:List V).length<=1000/\∀ x,H1 x=none->
  jwm CF (.ref x::[.int n,.int p]) (upd H1 x (XO CF none x)) (λv H2=>v = .non/\∃ dx,H2 x=some (XO CF (some dx) x)/\E (.ref CF) (some dx) (unt H2 x)) E:=by
 refine ⟨by show 2<=1000;decide,λx hx=>⟨x,n,p,rfl,jd,λdx n1 n2=>⟨rfl,dx,?_,?_⟩⟩⟩
 ·rw [jm (Ne.symm n2),jm (Ne.symm n2),jd]
 ·refine hE dx _ ?_;rw [jnf n2,jd]
structure v8(K:W.Frag)(mg:Str->Option Value)(CF fI:Addr)(au:FuncData):Prop where
 x:jch K CF fI ["number", "told"]=true
 F:Fun K "__init__" "Fault.__init__" jam fI au
 b:zl K au ["self", "number", "told"] []
 m:mg "Fault"=some (.ref CF)
 kp:PySem.W.keepIn K (.ref CF)=true
theorem we{N:List Str}{qual:Str}{scope:Scope}{f:Addr}{cd:Value}{A:Around}{outer:List Env}{s:Shared}{H:Hp}{E:XK}{a b:PySem.Expr}{ta tb:TE}{np cpos pos:Pos}(T:v8 K mg CF fI au)
  (hr:xw 2 (xt (CXF P w) P w K mg base N qual scope f cd A outer s H E).A) (hg:Gl (xt (CXF P w) P w K mg base N qual scope f cd A outer s H E) "Fault") (ha:PA (xt (CXF P w) P w K mg base N qual scope f cd A outer s H E) [a,b] (qk ta (qk tb xh)))
  (he:starEach [a,b] (xt (CXF P w) P w K mg base N qual scope f cd A outer s H E).env=(false,eval a (xt (CXF P w) P w K mg base N qual scope f cd A outer s H E).env)::starEach [b] (xt (CXF P w) P w K mg base N qual scope f cd A outer s H E).env:=by rfl)
  (hpl:(backTo cpos (starEach [b] (xt (CXF P w) P w K mg base N qual scope f cd A outer s H E).env)).any (·.1)=false:=by rfl) :
  PS (xt (CXF P w) P w K mg base N qual scope f cd A outer s H E) (.Raise (some (.Call (.Name "Fault" np) [a,b] [] cpos)) none pos) (jtv CF (jwm CF) E (qk ta (qk tb xh))) :=
 jun T.x (j3u T.F T.x) hr hg T.m T.kp T.b w8 j11 rfl rfl ha (by decide) he hpl
def jfy:Sp:=λvs H Q _=>∃ i,vs=[.int i]/\Q (.bl (decide (48<=i) && decide (i<=57))) H
theorem jzq:jv ["byte"] ["byte"] (jj jjf):=fs_
theorem jxo(F:Fun K "is_digit" "is_digit" jjf f fd)(c1:CI mg "ZERO" 48)(c2:CI mg "NINE" 57):xb P w K mg base (CXF P w) 1 f fd ["byte"] jfy:=by
 refine F.okF (k:=0) jzq (λvs H Q E h=>?_) (λac A outer s H vs Q E hr h=>?_)
 ·obtain ⟨i,rfl,_⟩:=h;rfl
 obtain ⟨i,rfl,q⟩:=h;refine ⟨_,je (jp (jjj jeb jeb (qz c1 rfl) (pv 0) (qz c2 rfl))),?_⟩;refine ⟨_,rfl,_,_,rfl,rfl,_,rfl,?_⟩;by_cases h:48<=i
 ·rw [dt_ h,Bool.true_and] at q;rw [dt_ h,if_pos rfl];exact ⟨_,_,rfl,rfl,q⟩
 ·rw [df_ h,Bool.false_and] at q;rw [df_ h,if_neg Bool.false_ne_true];exact q
end
open Vanbka (Bytes)
def vb(t:Bytes):List V:=t.map λc=>V.int (c.toNat:Int)
theorem xx(t:Bytes):(vb t).length=t.length:=List.length_map _
theorem w6{t:Bytes}{q:Nat}{c:UInt8}(h:t[q]? = some c):atI (vb t) (q:Int)=some (.int (c.toNat:Int)):=ja3 (by unfold vb;rw [List.getElem?_map,h];rfl)
theorem jjr{t r:Bytes}{q:Nat}{c:UInt8}(h:t.drop q=c::r):t[q]? = some c:=by
 have:=congrArg (λl=>l[0]?) h;simpa using this
theorem jbg{t:Bytes}{q:Nat}(h:q < t.length):∃ c r,t.drop q=c::r/\t[q]? = some c/\t.drop (q + 1)=r:=by
 refine ⟨t[q],t.drop (q + 1),List.drop_eq_getElem_cons h,List.getElem?_eq_getElem h,rfl⟩
theorem jv1{a b c:Int}{Q:V->Prop}(q:Q (.bl (decide (a<=b) && decide (b<=c)))):if decide (a<=b)=true then (∃ i j,V.int b = .int i/\V.int c = .int j/\Q (.bl (decide (i<=j)))) else Q (.bl false):=by
 by_cases h:a<=b
 ·rw [dt_ h,Bool.true_and] at q;rw [dt_ h,if_pos rfl];exact ⟨_,_,rfl,rfl,q⟩
 ·rw [df_ h,Bool.false_and] at q;rw [df_ h,if_neg Bool.false_ne_true];exact q
theorem orQ{x:Bool}{T R:Prop}(h1:x=true->T)(h2:x=false->R):∃ c,V.bl x = .bl c/\if c=true then T else R:=by
 refine ⟨x,rfl,?_⟩;cases x with
 | true=>rw [if_pos rfl];exact h1 rfl
 | false=>rw [if_neg Bool.false_ne_true];exact h2 rfl
theorem yt{c:UInt8}{n:Nat}(h:n < 256):((c.toNat:Int)=(n:Int))↔c=UInt8.ofNat n:=by
 constructor
 ·intro e;have e':c.toNat=n:=by omega
  apply UInt8.toNat_inj.mp;rw [UInt8.toNat_ofNat',e'];exact (Nat.mod_eq_of_lt h).symm
 ·intro e;subst e;rw [UInt8.toNat_ofNat'];have:=Nat.mod_eq_of_lt h
  simp only [Nat.reducePow] at *
  omega
section
variable{P:Program}{w:World}{K:W.Frag}{mg:Str->Option Value}{base:Heap}{f g CF fI:Addr}{fd gd au:FuncData}
def jga(i:Int):Bool:=(decide (65<=i) && decide (i<=90)) || ((decide (97<=i) && decide (i<=122)) || (decide (i=95) || (decide (48<=i) && decide (i<=57))))
def jif:Sp:=λvs H Q _=>∃ i,vs=[.int i]/\Q (.bl (jga i)) H
theorem jzl:jv ["byte"] ["byte"] (jj jfi):=fs_
theorem jxe(F:Fun K "is_word_byte" "is_word_byte" jfi f fd)(G:xb P w K mg base (CXF P w) 1 g gd ["byte"] jfy)(bG:zl K gd ["byte"] [])(kG:PySem.W.keepIn K (.ref g)=true)(mG:mg "is_digit"=some (.ref g))
  (c1:CI mg "UNDERSCORE" 95):xb P w K mg base (CXF P w) 2 f fd ["byte"] jif:=by
 refine F.okF (k:=1) jzl (λvs H Q E h=>?_) (λac A outer s H vs Q E hr h=>?_)
 ·obtain ⟨i,rfl,_⟩:=h;rfl
 obtain ⟨i,rfl,q⟩:=h;refine ⟨_,je (jp (jr4 (jjj jeb jeb qe (pv 0) qe) (jr4 (jjj jeb jeb qe (pv 0) qe) (jr4 (jim xi (pv 0) (qz c1 rfl) (j9 _)) (jus (v7 G hr rfl mG kG bG .nil w8 (ja (pv 0) jb))))))),?_⟩;refine ⟨_,rfl,_,_,rfl,rfl,_,rfl,jv1 (Q:=λx=>∃ c,x=V.bl c/\if c=true then Q (.bl true) H else _) (orQ (λh1=>?_) (λh1=>?_))⟩
 ·unfold jga at q;rw [h1,Bool.true_or] at q;exact q
 refine ⟨_,rfl,_,_,rfl,rfl,_,rfl,jv1 (Q:=λx=>∃ c,x=V.bl c/\if c=true then Q (.bl true) H else _) (orQ (λh2=>?_) (λh2=>?_))⟩
 ·unfold jga at q;rw [h1,h2,Bool.false_or,Bool.true_or] at q;exact q
 refine ⟨_,rfl,rfl,orQ (λh3=>?_) (λh3=>?_)⟩
 ·have e:i=95:=by have:=ot_ h3;injection this
  unfold jga at q;rw [h1,h2,dt_ e,Bool.false_or,Bool.false_or,Bool.true_or] at q;exact q
 ·have e:¬ i=95:=λz=>by subst z;exact absurd h3 (by simp)
  unfold jga at q;rw [h1,h2,df_ e,Bool.false_or,Bool.false_or,Bool.false_or] at q;exact ⟨_,rfl,i,rfl,q⟩
def jnl(K:W.Frag):Sp:=λvs H Q _=>∃ (a:Addr) (t:Bytes) (p:Nat),vs=[.ref a,.int p]/\az K H a (vb t)/\p<=t.length/\Q (.int ((p + Cell.skip false (t.drop p):Nat):Int)) H
theorem jud:jv ["text", "place", "in_comment", "byte"] ["text", "place"] (jj jhq):=fs_
theorem j0c(F:Fun K "pass_over" "pass_over" jhq f fd)(ml:mg "len"=none)(c1:CI mg "LINE_FEED" 10)(c2:CI mg "HASH" 35)(c3:CI mg "BLANK" 32):xb P w K mg base (CXF P w) 1 f fd ["text", "place"] (jnl K):=by
 refine F.okF (k:=0) jud (λvs H Q E h=>?_) (λac A outer s H vs Q E hr h=>?_)
 ·obtain ⟨a,t,p,rfl,_⟩:=h;rfl
 obtain ⟨a,t,p,rfl,hS,hp,q⟩:=h;have nd:=jud.nd
 refine ⟨_,jc (ju (i:=2) nd rfl (Or.inl rfl) jr5)
  (jc (z6 jad (js jgw (pv 1) (ye xu rfl ml PySem.boot_len (ja (pv 0) jb)) (j9 _))
   (jc (ju (i:=3) nd rfl (Or.inl rfl) (xp qv (pv 0) (pv 1) (λ_ _=>rfl)))
   (jc (qi (js xi (pv 3) (qz c1 rfl) (j9 _)) (je (ju (i:=2) nd rfl (Or.inl rfl) jr5))
    (je (qi (js xi (pv 3) (qz c2 rfl) (j9 _)) (je (ju (i:=2) nd rfl (Or.inl rfl) jr5))
     (je (qi (PW.pt (jcn (js jea (pv 3) (qz c3 rfl) (j9 _)) (jb_ (joc (jez (pv 2)))))) (je (jp (pv 1))) j3)))))
   (je (jbu (i:=1) nd rfl (Or.inl rfl) qe jdr)))))
  (je (jp (pv 1)))),?_⟩
 refine ⟨λm σ H'=>H'=H/\∃ (j:Nat) (cm:Bool) (v3:Option V),σ=[some (.ref a),some (.int (j:Int)),some (.bl cm),v3]/\m=t.length - j/\j<=t.length/\p + Cell.skip false (t.drop p)=j + Cell.skip cm (t.drop j),
  ⟨_,rfl,p,false,none,rfl,rfl,hp,rfl⟩,?_⟩
 rintro m σ H' ⟨rfl,j,cm,v3,rfl,rfl,hj,inv⟩;refine ⟨_,rfl,_,rfl,a,_,rfl,.inl hS,_,_,rfl,rfl,_,rfl,qd (λc=>?_) (λc=>?_)⟩
 ·have am:j < t.length:=by
   have:=ot_ c;rw [xx] at this;omega
  obtain ⟨b,r,hd,hb,hr'⟩:=jbg am;refine ⟨λσ' H2=>∃ m',m' < t.length - j/\(H2=H'/\∃ (j:Nat) (cm:Bool) (v3:Option V),σ'=[some (.ref a),some (.int (j:Int)),some (.bl cm),v3]/\m'=t.length - j/\j<=t.length/\p + Cell.skip false (t.drop p)=j + Cell.skip cm (t.drop j)),λ_ _ z=>z,?_⟩;refine ⟨_,rfl,_,rfl,a,_,_,_,rfl,rfl,hS,w6 hb,?_⟩;have step:∀ cm',Cell.skip cm (t.drop j)=Cell.skip cm' (t.drop (j + 1)) + 1->∃ m',m' < t.length - j/\(H'=H'/\∃ (j':Nat) (cm2:Bool) (v3:Option V),([some (.ref a),some (.int ((j:Int) + 1)),some (.bl cm'),some (.int (b.toNat:Int))]:St)=[some (.ref a),some (.int (j':Int)),some (.bl cm2),v3]/\m'=t.length - j'/\j'<=t.length/\p + Cell.skip false (t.drop p)=j' + Cell.skip cm2 (t.drop j')):=by
   intro cm' e;exact ⟨t.length - (j + 1),by omega,rfl,j + 1,cm',_,rfl,rfl,by omega,by omega⟩
  rw [hd] at step;refine ⟨_,rfl,rfl,_,rfl,qd (λc1=>?_) (λc1=>?_)⟩
  ·have e:b=10:=(yt (n:=10) (by decide)).mp (by have:=ot_ c1;injection this);refine ⟨_,rfl,_,_,rfl,rfl,step false ?_⟩;rw [hr',Cell.skip,if_pos e]
  have n1:¬ b=10:=λe=>c1 (dt_ (by rw [(yt (n:=10) (by decide)).mpr e];rfl));refine ⟨_,rfl,rfl,_,rfl,qd (λc2=>?_) (λc2=>?_)⟩
  ·have e:b=35:=(yt (n:=35) (by decide)).mp (by have:=ot_ c2;injection this);refine ⟨_,rfl,_,_,rfl,rfl,step true ?_⟩;rw [hr',Cell.skip,if_neg n1,if_pos e]
  have n2:¬ b=35:=λe=>c2 (dt_ (by rw [(yt (n:=35) (by decide)).mpr e];rfl));refine ⟨_,rfl,rfl,_,rfl,qd (λc3=>?_) (λc3=>?_)⟩
  ·have n3:b≠32:=λe=>by
    have:(V.int (b.toNat:Int))=V.int 32:=by rw [(yt (n:=32) (by decide)).mpr e];rfl
    rw [dt_ this] at c3;cases c3
   refine ⟨_,rfl,_,rfl,qd (λc4=>?_) (λc4=>?_)⟩
   ·have ecm:cm=false:=by simpa using c4
    refine ⟨_,rfl,?_⟩;have:Cell.skip cm (t.drop j)=0:=by rw [hd,Cell.skip,if_neg n1,if_neg n2,if_pos ⟨n3,ecm⟩]
    rw [inv,this] at q;exact q
   ·have ecm:cm=true:=by simpa using c4
    refine ⟨_,rfl,_,_,rfl,rfl,step cm ?_⟩;rw [hr',Cell.skip,if_neg n1,if_neg n2,if_neg (λz=>by rw [ecm] at z;exact absurd z.2 (by decide))]
  ·have e:b=32:=(yt (n:=32) (by decide)).mp (by
    have:decide (V.int (b.toNat:Int)=V.int 32)=true:=by simpa using c3
    have:=ot_ this;injection this)
   refine qd (λz=>?_) (λ_=>?_)
   ·exact absurd z (by decide)
   ·refine ⟨_,rfl,_,_,rfl,rfl,step cm ?_⟩;rw [hr',Cell.skip,if_neg n1,if_neg n2,if_neg (λz=>z.1 e)]
 ·have e:j=t.length:=by
   have:¬ ((j:Int) < ((vb t).length:Int)):=λz=>c (dt_ z);rw [xx] at this;omega
  refine ⟨_,rfl,?_⟩;have:Cell.skip cm (t.drop j)=0:=by rw [e,List.drop_length];rfl
  rw [inv,this] at q;exact q
end
open Vanbka (allowed)
theorem j26{a b c:Int}{R:Bool->Prop}(q:R (decide (a<=b) && decide (b<=c))):if decide (a<=b)=true then (∃ i j,V.int b = .int i/\V.int c = .int j/\∃ k,V.bl (decide (i<=j)) = .bl k/\R k) else ∃ k,V.bl false = .bl k/\R k:=by
 by_cases h:a<=b
 ·rw [dt_ h,Bool.true_and] at q;rw [dt_ h,if_pos rfl];exact ⟨_,_,rfl,rfl,_,rfl,q⟩
 ·rw [df_ h,Bool.false_and] at q;rw [df_ h,if_neg Bool.false_ne_true];exact ⟨_,rfl,q⟩
section
variable{P:Program}{w:World}{K:W.Frag}{mg:Str->Option Value}{base:Heap}{f g CF fI CT:Addr}{fd gd au:FuncData}
def jib(i:Int):Bool:=decide (i=10) || (decide (32<=i) && decide (i<=126))
theorem jhb(c:UInt8):jib (c.toNat:Int)=allowed c:=by
 unfold jib allowed;have h1:decide ((c.toNat:Int)=10)=(c == 10):=by
  by_cases h:c=10
  ·subst h;decide
  ·have hne:¬ ((c.toNat:Int)=10):=λe=>h ((yt (n:=10) (by decide)).mp e);rw [df_ hne];exact (beq_eq_false_iff_ne.mpr h).symm
 have h2:decide ((32:Int)<=(c.toNat:Int))=decide ((32:UInt8)<=c):=by
  apply decide_eq_decide.mpr;rw [UInt8.le_iff_toNat_le];show (32:Int)<=_↔32<=c.toNat
  omega
 have h3:decide ((c.toNat:Int)<=126)=decide (c<=(126:UInt8)):=by
  apply decide_eq_decide.mpr;rw [UInt8.le_iff_toNat_le];show _<=(126:Int)↔c.toNat<=126
  omega
 rw [h1,h2,h3]
theorem jx8{t:Bytes}{i:Nat}{c:UInt8}(h:∀ b∈t.take i,allowed b=true)(e:t[i]? = some c)(n:allowed c=false):t.findIdx? (λc => !allowed c)=some i:=by
 obtain ⟨hi,ec⟩:=List.getElem?_eq_some_iff.mp e;rw [List.findIdx?_eq_some_iff_getElem];refine ⟨hi,by rw [ec,n];rfl,λj hj=>?_⟩;have:t[j]∈t.take i:=by
  rw [List.mem_take_iff_getElem];exact ⟨j,by omega,rfl⟩
 rw [h _ this];simp
theorem jvv{t:Bytes}(h:∀ b∈t,allowed b=true):t.findIdx? (λc => !allowed c)=none:=by
 rw [List.findIdx?_eq_none_iff];intro b hb;rw [h b hb];rfl
def jlg(K:W.Frag)(CF:Addr):Sp:=λvs H Q E=>∃ (a:Addr) (t:Bytes),vs=[.ref a]/\az K H a (vb t)/\match t.findIdx? (λc => !allowed c) with
 | some p=>Err CF E 1 (p:Int)
 | none=>∀ H',jg H H'->Q .non H'
theorem jqn:jv ["text", "place", "byte"] ["text"] (jj jfl):=fs_
theorem jo{H:Hp}{p:Addr}(h:H p=none)(o:HO):jg H (upd H p o):=λb u q=>by rw [jm (qu q h)];exact q
theorem jxq(F:Fun K "check_bytes" "check_bytes" jfl f fd)(T:v8 K mg CF fI au)(me:mg "enumerate"=none)(c1:CI mg "LINE_FEED" 10)(c2:CI mg "BLANK" 32)(c3:CI mg "LAST_ALLOWED" 126)(c4:CI mg "FORBIDDEN_BYTE" 1) :
  xb P w K mg base (CXF P w) 3 f fd ["text"] (jlg K CF):=by
 refine F.okF (k:=2) jqn (λvs H Q E h=>?_) (λac A outer s H vs Q E hr h=>?_)
 ·obtain ⟨a,t,rfl,_⟩:=h;rfl
 obtain ⟨a,t,rfl,hS,q⟩:=h;have nd:=jqn.nd
 refine ⟨_,je (jdm jad rfl (jqs rfl me (ja (pv 0) jb)) (joh rfl (jcz (yo (i:=1) nd rfl (Or.inl rfl)) (jcz (yo (i:=2) nd rfl (Or.inl rfl)) jlk)))
  (je (qi (PW.pt (jcn (js jea (pv 2) (qz c1 rfl) (j9 _)) (jb_ (joc (jod jeb jeb (qz c2 rfl) (pv 2) (qz c3 rfl)))))) (je (we T hr rfl (ja (qz c4 rfl) (ja (pv 1) jb)))) j3))),?_⟩
 refine ⟨_,rfl,a,_,rfl,hS,λi m σ H'=>m=t.length - i/\i<=t.length/\jg H H'/\(∃ v1 v2,σ=[some (.ref a),v1,v2])/\∀ b∈t.take i,allowed b=true,⟨_,rfl,Nat.zero_le _,jg.refl H,⟨none,none,rfl⟩,λb hb=>by simp at hb⟩,?_⟩;rintro i m σ H' ⟨rfl,hi,sm,⟨v1,v2,rfl⟩,al⟩;have hS':=sm.seq hS
 by_cases am:i < t.length
 ·obtain ⟨c,r,hd,hc,_⟩:=jbg am;have hx:(vb t)[i]? = some (.int (c.toNat:Int)):=by unfold vb;rw [List.getElem?_map,hc];rfl
  refine .inr ⟨⟨_,_,hS',hx⟩,λσ' H2=>∃ m',m' < t.length - i/\(m'=t.length - (i + 1)/\i + 1<=t.length/\jg H H2/\(∃ v1 v2,σ'=[some (.ref a),v1,v2])/\∀ b∈t.take (i + 1),allowed b=true),λ_ _ z=>z,?_⟩;rintro x H2 ⟨Tp,y,rfl,hT,rfl,hy⟩;have ey:=hy _ hS'
  rw [hx] at ey;cases ey;refine ⟨Tp,_,rfl,be.of jd,rfl,_,_,rfl,_,_,rfl,rfl,?_⟩;have sm2:jg H (upd H' Tp (.tup [.int (i:Nat),.int (c.toNat:Int)])):=sm.trans (jo hT _)
  have good:allowed c=true->∃ m',m' < t.length - i/\(m'=t.length - (i + 1)/\i + 1<=t.length/\jg H (upd H' Tp (.tup [.int (i:Nat),.int (c.toNat:Int)]))/\(∃ v1 v2,([some (.ref a),some (.int (i:Nat)),some (.int (c.toNat:Int))]:St)=[some (.ref a),v1,v2])/\∀ b∈t.take (i + 1),allowed b=true):=λhac =>
   ⟨_,by omega,rfl,am,sm2,⟨_,_,rfl⟩,λb hb=>by
    rw [List.take_add_one,hc] at hb;rcases List.mem_append.mp hb with z | z
    ·exact al b z
    ·have:b=c:=by simpa using z
     rw [this];exact hac⟩
  refine ⟨_,rfl,rfl,_,rfl,qd (λk1=>?_) (λk1=>?_)⟩
  ·have n1:¬ (c.toNat:Int)=10:=λe=>by
    rw [e] at k1;exact absurd k1 (by decide)
   refine ⟨_,rfl,_,_,rfl,rfl,_,rfl,j26 (qd (λk2=>?_) (λk2=>?_))⟩
   ·have bad:allowed c=false:=by
     rw [<- jhb];unfold jib;rw [df_ n1,Bool.false_or];exact (Bool.not_eq_true' _).mp k2
    rw [jx8 al hc bad] at q;exact ⟨_,rfl,yz q⟩
   ·refine good ?_;rw [<- jhb];unfold jib;rw [df_ n1,Bool.false_or];simpa using k2
  ·have e:(c.toNat:Int)=10:=by
    have:decide (V.int (c.toNat:Int)=V.int 10)=true:=by simpa using k1
    have:=ot_ this;injection this
   refine qd (λz=>?_) (λ_=>?_)
   ·exact absurd z (by decide)
   ·refine good ?_;rw [<- jhb];unfold jib;rw [dt_ e,Bool.true_or]
 ·have e:i=t.length:=by omega
  subst e;rw [List.take_length] at al;rw [jvv al] at q;exact .inl ⟨⟨_,hS',by rw [xx];exact Nat.le_refl _⟩,q H' sm⟩
end
open Vanbka (Lex reserved lexAt digit letter wordByte natOf)
def xo(x:Bytes):Str:=⟨(x.map (·.toNat)).toArray⟩
def jy:Lex->Str
 | .word x=>if reserved.contains x then xo x else "NAME"
 | .num _ => "NUMBER"
 | .quoted _ => "QUOTED"
 | .sign x=>if x == [37] then "percent" else xo x
def jeh(H:Hp):Lex->V->Prop
 | .word x,v=>if reserved.contains x then v = .non else ∃ a,v = .ref a/\H a=some (.lst (vb x))
 | .num n,v=>v = .int n
 | .quoted x,v=>∃ a,v = .ref a/\H a=some (.lst (vb x))
 | .sign _,v=>v = .non
theorem jeh.lists{H H':Hp}(s:∀ a us,H a=some (.lst us)->H' a=some (.lst us)){l:Lex}{v:V}(h:jeh H l v):jeh H' l v:=by
 cases l with
 | word x =>
  have h:if reserved.contains x then v = .non else ∃ a,v = .ref a/\H a=some (.lst (vb x)):=h
  show if reserved.contains x then v = .non else ∃ a,v = .ref a/\H' a=some (.lst (vb x))
  by_cases c:reserved.contains x=true
  ·rw [if_pos c] at h ⊢;exact h
  ·rw [if_neg c] at h ⊢;obtain ⟨a,e,q⟩:=h;exact ⟨a,e,s _ _ q⟩
 | num n=>exact h
 | quoted x =>
  obtain ⟨a,e,q⟩:=h;exact ⟨a,e,s _ _ q⟩
 | sign x=>exact h
theorem jeh.same{H H':Hp}(s:jg H H'){l:Lex}{v:V}(h:jeh H l v):jeh H' l v:=h.lists λ_ _ q=>s _ _ q
abbrev jdw(k:Str)(p e:Int)(v:V):List (Str×V):=[("kind",.str k),("place",.int p),("end",.int e),("value",v)]
def vv(CT:Addr)(H:Hp)(x:Addr)(t:Vanbka.Tok):Prop:=∃ dx v,H x=some (.ins CT dx (jdw (jy t.lex) t.place ((t.place + t.len:Nat):Int) v))/\jeh H t.lex v
theorem vv.same{CT:Addr}{H H':Hp}(s:jg H H'){x:Addr}{t:Vanbka.Tok}(h:vv CT H x t):vv CT H' x t:=by
 obtain ⟨dx,v,e,q⟩:=h;exact ⟨dx,v,s _ _ e,q.same s⟩
abbrev noH:Hp:=λ_=>none
def ay(T H H':Hp):Hp:=λb=>match T b with
 | some o=>some o
 | none=>match H b with
  | none=>H' b
  | some _=>none
theorem j_{T H H':Hp}{b:Addr}{o:HO}(t:T b=none)(h:H b=none)(e:H' b=some o):ay T H H' b=some o:=by
 unfold ay;rw [t,h];exact e
theorem jiv{T H H':Hp}{b:Addr}{o:HO}(t:T b=some o):ay T H H' b=some o:=by
 unfold ay;rw [t]
theorem jak{T H H':Hp}{b:Addr}{o:HO}(h:ay T H H' b=some o):T b=some o\/(T b=none/\H b=none/\H' b=some o):=by
 unfold ay at h;cases ht:T b with
 | some u=>rw [ht] at h;exact .inl h
 | none =>
  rw [ht] at h;cases hh:H b with
  | none=>rw [hh] at h;exact .inr ⟨rfl,rfl,h⟩
  | some u=>rw [hh] at h;cases h
theorem jk{H H1:Hp}{x:Addr}(s:jg H H1)(n:H1 x=none):H x=none:=by
 cases e:H x with
 | none=>rfl
 | some o=>rw [s _ _ e] at n;cases n
section
variable{P:Program}{w:World}{K:W.Frag}{mg:Str->Option Value}{base:Heap}{f g CF fI CT tI:Addr}{fd gd au aw:FuncData}
def a7(x:Addr)(H H':Hp):Prop:=∀ b o,H b=some o->b≠x->H' b=some o
theorem a7.same{x dx C:Addr}{H H1:Hp}(nx:H x=none)(nd:H dx=none)(k:a7 x (upd (upd H dx (.own x)) x (.ins C dx [])) H1):jg H H1:=jg.made nx nd k
def j1g(CT:Addr):Sp:=λvs H Q _=>∃ x dx k p e v,vs=[.ref x,.str k,.int p,.int e,v]/\H x=some (.ins CT dx [])/\∀ H',a7 x H H'->H' x=some (.ins CT dx (jdw k p e v))->Q .non H'
theorem j4m:jv ["self", "kind", "place", "end", "value"] ["self", "kind", "place", "end", "value"] (jj jbl):=fs_
structure zu(K:W.Frag)(mg:Str->Option Value)(x:Str)(C:Addr)(flds:List Str):Prop where
 cl:Cls K C
 no:∀ f∈flds,jdu K C f
 m:mg x=some (.ref C)
structure zz(K:W.Frag)(mg:Str->Option Value)(CT tI:Addr)(aw:FuncData):Prop where
 c:zu K mg "Token" CT ["kind", "place", "end", "value"]
 make:Mk K CT tI
 F:Fun K "__init__" "Token.__init__" jbl tI aw
 b:zl K aw ["self", "kind", "place", "end", "value"] []
theorem jgy(T:zz K mg CT tI aw):xb P w K mg base (CXF P w) 1 tI aw ["self", "kind", "place", "end", "value"] (j1g CT):=by
 refine T.F.okF (k:=0) j4m (λvs H Q E h=>?_) (λac A outer s H vs Q E hr h=>?_)
 ·obtain ⟨x,dx,k,p,e,v,rfl,_⟩:=h;rfl
 obtain ⟨x,dx,k,p,e,v,rfl,hx,q⟩:=h;refine ⟨_,jc (v_ (pv 0) (pv 1) rfl) (jc (v_ (pv 0) (pv 2) rfl) (jc (v_ (pv 0) (pv 3) rfl) (je (v_ (pv 0) (pv 4) rfl)))),?_⟩;refine ⟨_,rfl,_,rfl,x,CT,dx,_,rfl,hx,T.c.cl,T.c.no _ (.head _),(by show 0 < 1000;decide),?_⟩;refine ⟨_,rfl,_,rfl,x,CT,dx,_,rfl,jd,T.c.cl,T.c.no _ (.tail _ (.head _)),(by show 1 < 1000;decide),?_⟩;refine ⟨_,rfl,_,rfl,x,CT,dx,_,rfl,jd,T.c.cl,T.c.no _ (.tail _ (.tail _ (.head _))),(by show 2 < 1000;decide),?_⟩;refine ⟨_,rfl,_,rfl,x,CT,dx,_,rfl,jd,T.c.cl,T.c.no _ (.tail _ (.tail _ (.tail _ (.head _)))),(by show 3 < 1000;decide),?_⟩;exact q _ (λb o hb ne=>by rw [jm ne,jm ne,jm ne,jm ne];exact hb) jd
def jal(K:W.Frag)(CF CT:Addr)(G:UInt8->Prop):Sp:=λvs H Q E=>∃ (a:Addr) (t r:Bytes) (q:Nat) (c:UInt8),vs=[.ref a,.int q]/\az K H a (vb t)/\t.length<=900000/\t.drop q=c::r/\G c/\match lexAt (t.drop q) with
 | some (l,k)=>∀ x H',jg H H'->vv CT (ay noH H H') x { lex:=l,place:=q,len:=k }->Q (.ref x) H'
 | none=>Err CF E 2 (q:Int)
theorem jcs(c:UInt8):(decide (48<=(c.toNat:Int)) && decide ((c.toNat:Int)<=57))=digit c:=by
 unfold digit;have h2:decide ((48:Int)<=(c.toNat:Int))=decide ((48:UInt8)<=c):=by
  apply decide_eq_decide.mpr;rw [UInt8.le_iff_toNat_le];show (48:Int)<=_↔48<=c.toNat
  omega
 have h3:decide ((c.toNat:Int)<=57)=decide (c<=(57:UInt8)):=by
  apply decide_eq_decide.mpr;rw [UInt8.le_iff_toNat_le];show _<=(57:Int)↔c.toNat<=57
  omega
 rw [h2,h3]
theorem jo1{c:UInt8}(hc:digit c=true):letter c=false:=by
 unfold digit at hc;unfold letter;simp only [Bool.and_eq_true,decide_eq_true_eq,UInt8.le_iff_toNat_le] at hc;simp only [Bool.or_eq_false_iff,Bool.and_eq_false_iff,decide_eq_false_iff_not,UInt8.le_iff_toNat_le,beq_eq_false_iff_ne];obtain ⟨h1,h2⟩:=hc;have h2:c.toNat<=57:=h2
 refine ⟨⟨.inl ?_,.inl ?_⟩,λe=>?_⟩
 ·show ¬ 65<=c.toNat;omega
 ·show ¬ 97<=c.toNat;omega
 ·subst e;exact absurd h2 (by decide)
theorem tw_end{p:UInt8->Bool}{u:Bytes}{j:Nat}(h:∀ b∈u.take j,p b=true)(e:j=u.length\/∃ c,u[j]? = some c/\p c=false):u.takeWhile p=u.take j:=by
 induction u generalizing j with
 | nil=>simp
 | cons b u ih =>
  cases j with
  | zero =>
   rcases e with e | ⟨c,e1,e2⟩
   ·simp at e
   ·have:b=c:=by simpa using e1
    subst this;rw [List.takeWhile_cons,e2];simp
  | succ j =>
   have hb:p b=true:=h b (by simp);rw [List.takeWhile_cons,hb,if_pos rfl,List.take_succ_cons,ih (λc hc=>h c (by rw [List.take_succ_cons];exact List.mem_cons_of_mem _ hc))];rcases e with e | ⟨c,e1,e2⟩
   ·left;simpa using e
   ·right;exact ⟨c,by simpa using e1,e2⟩
theorem ja_{u:Bytes}{j:Nat}{c:UInt8}(h:u[j]? = some c):u.take (j + 1)=u.take j ++ [c]:=by
 rw [List.take_add_one,h];rfl
theorem jsl(u:Bytes)(c:UInt8):natOf (u ++ [c])=10 * natOf u + (c.toNat - 48):=by
 unfold natOf;rw [List.foldl_append];rfl
theorem jiu{t:Bytes}{q j:Nat}:(t.drop q)[j]? = t[q + j]? := by rw [List.getElem?_drop]
theorem jyw:jv ["text", "place", "end", "value", "size"] ["text", "place"] (jj jgq):=fs_
theorem j2k(F:Fun K "cut_number" "cut_number" jgq f fd)(T:v8 K mg CF fI au)(U:zz K mg CT tI aw)(G:xb P w K mg base (CXF P w) 1 g gd ["byte"] jfy)(bG:zl K gd ["byte"] [])(kG:PySem.W.keepIn K (.ref g)=true)
  (mG:mg "is_digit"=some (.ref g)) (ml:mg "len"=none) (c1:CI mg "ZERO" 48) (c2:CI mg "LONGEST_NUMBER" 30) (c3:CI mg "WRONG_TOKEN" 2):xb P w K mg base (CXF P w) 3 f fd ["text", "place"] (jal K CF CT λc=>digit c=true):=by
 refine F.okF (k:=2) jyw (λvs H Q E h=>?_) (λac A outer s H vs Q E hr h=>?_)
 ·obtain ⟨a,t,r,q,c,rfl,_⟩:=h;rfl
 obtain ⟨a,t,r,q,c,rfl,hS,ak,hd,hc,k⟩:=h;have nd:=jyw.nd
 refine ⟨_,jc (ju (i:=2) nd rfl (Or.inl rfl) (pv 1)) (jc (ju (i:=3) nd rfl (Or.inl rfl) qe)
  (jc (z6 jad (PW.pt (jcn (js jgw (pv 2) (ye xu rfl ml PySem.boot_len (ja (pv 0) jb)) (j9 _))
    (jb_ (jez (v7 G (hr.mono (by decide)) rfl mG kG bG .nil w8 (ja (xp qv (pv 0) (pv 2) (λ_ _=>rfl)) jb))))))
   (jc (ju (i:=3) nd rfl (Or.inl rfl) (qa jhy (qa jbx (qa j2h (pv 3) qe) (xp qv (pv 0) (pv 2) (λ_ _=>rfl))) (qz c1 rfl)))
    (je (jbu (i:=2) nd rfl (Or.inl rfl) qe jdr))))
  (jc (ju (i:=4) nd rfl (Or.inl rfl) (qa jhy (pv 2) (pv 1)))
  (jc (qi (PW.pt (jr1 (js jec (pv 4) (qz c2 rfl) (j9 _)) (job (PW.pt (jcn (js jec (pv 4) qe (j9 _)) (jb_ (js xi (xp qv (pv 0) (pv 1) (λ_ _=>rfl)) (qz c1 rfl) (j9 _))))))))
    (je (we T hr rfl (ja (qz c3 rfl) (ja (pv 1) jb)))) j3)
  (je (jp (jbq U.make (jgy U) hr rfl U.c.m U.b .nil w8 (ja jf (ja (pv 1) (ja (pv 2) (ja (pv 3) jb)))))))))))
  ,?_⟩
 have hq:q < t.length:=(Cell.drop_one hd).2;have lenu:(t.drop q).length=t.length - q:=List.length_drop
 refine ⟨_,rfl,?_⟩;refine ⟨λm σ H'=>H'=H/\∃ (j:Nat) (v4:Option V),σ=[some (.ref a),some (.int (q:Int)),some (.int ((q + j:Nat):Int)),some (.int (natOf ((t.drop q).take j):Int)),v4]/\m=t.length - (q + j)/\q + j<=t.length/\∀ b∈(t.drop q).take j,digit b=true,
  ⟨_,rfl,0,none,rfl,rfl,by omega,λb hb=>by simp at hb⟩,?_⟩
 rintro m σ H' ⟨rfl,j,v4,rfl,rfl,hj,al⟩;refine (λ(fin:(j=(t.drop q).length\/∃ c,(t.drop q)[j]? = some c/\digit c=false)->?A)=>?main) ?fin
 case main =>
  refine ⟨_,rfl,_,rfl,a,_,rfl,.inl hS,_,_,rfl,rfl,_,rfl,qd (λc1=>?_) (λc1=>?_)⟩
  ·have am:q + j < t.length:=by
    have:=ot_ c1;rw [xx] at this;omega
   obtain ⟨b,r2,hd2,hb,_⟩:=jbg am;refine ⟨_,rfl,_,rfl,a,_,_,_,rfl,rfl,hS,w6 hb,_,rfl,_,rfl,qd (λc2=>?_) (λc2=>?_)⟩
   ·rw [jcs] at c2;have d2:=c2
    unfold digit at d2;refine ⟨λσ' H2=>∃ m',m' < t.length - (q + j)/\(H2=H'/\∃ (j:Nat) (v4:Option V),σ'=[some (.ref a),some (.int (q:Int)),some (.int ((q + j:Nat):Int)),some (.int (natOf ((t.drop q).take j):Int)),v4]/\m'=t.length - (q + j)/\q + j<=t.length/\∀ b∈(t.drop q).take j,digit b=true),λ_ _ z=>z,?_⟩;refine ⟨_,rfl,_,_,rfl,rfl,.inr ⟨by decide,by decide⟩,_,rfl,_,rfl,a,_,_,_,rfl,rfl,hS,w6 hb,_,_,rfl,rfl,_,_,rfl,rfl,?_⟩;have e1:(t.drop q)[j]? = some b:=by rw [jiu];exact hb
    have ge:48<=b.toNat:=by
     have:=jcs b;rw [c2] at this;have:=(Bool.and_eq_true_iff.mp this).1
     have:=ot_ this;omega
    refine ⟨_,rfl,_,_,rfl,rfl,t.length - (q + (j + 1)),by omega,rfl,j + 1,v4,?_,rfl,by omega,λz hz=>?_⟩
    ·have e2:(natOf ((t.drop q).take (j + 1)):Int)=(natOf ((t.drop q).take j):Int) * 10 + (b.toNat:Int) - 48:=by
      rw [ja_ e1,jsl];omega
     rw [e2];rfl
    ·rw [ja_ e1] at hz;rcases List.mem_append.mp hz with y | y
     ·exact al z y
     ·have:z=b:=by simpa using y
      rw [this];exact c2
   ·refine fin (.inr ⟨b,by rw [jiu];exact hb,?_⟩);rw [<- jcs];exact Bool.eq_false_iff.mpr c2
  ·refine fin (.inl ?_);have:¬ (((q + j:Nat):Int) < ((vb t).length:Int)):=λz=>c1 (dt_ z)
   rw [xx] at this;omega
 case fin =>
  intro e;have tw:=tw_end al e
  have jl:((t.drop q).takeWhile digit).length=j:=by rw [tw,List.length_take,lenu];omega
  have lx:lexAt (t.drop q)=if ((t.drop q).takeWhile digit).length<=30 && (((t.drop q).takeWhile digit).length == 1 || c != 48) then some (.num (natOf ((t.drop q).takeWhile digit)),((t.drop q).takeWhile digit).length) else none:=by
   rw [hd];show (if letter c then _ else if digit c then _ else _)=_
   rw [jo1 hc,hc];rfl
  rw [lx,jl,tw] at k;have j1:1<=j:=by
   rw [hd,List.takeWhile_cons,hc,if_pos rfl,List.length_cons] at jl;omega
  have sz:((q + j:Nat):Int) - (q:Int)=(j:Int):=by omega
  have raise:(decide (j<=30) && (j == 1 || c != 48))=false->Err CF E 2 (q:Int):=λz=>by
   rw [z] at k;exact k
  have token:(decide (j<=30) && (j == 1 || c != 48))=true->∀ x H2,jg H' H2->vv CT (ay noH H' H2) x { lex:=.num (natOf ((t.drop q).take j)),place:=q,len:=j }->Q (.ref x) H2:=λz=>by
   rw [z] at k;exact k
  have give:(decide (j<=30) && (j == 1 || c != 48))=true->∀ x dx,H' x=none->H' dx=none->dx≠x->
    j1g CT [.ref x,.str "NUMBER",.int (q:Int),.int ((q + j:Nat):Int),.int (natOf ((t.drop q).take j):Int)] (upd (upd H' dx (.own x)) x (.ins CT dx [])) (λv H2=>v = .non/\Q (.ref x) H2) E:=λz x dx nx ndx ne =>
   ⟨x,dx,_,_,_,_,rfl,jd,λH2 b e=>⟨rfl,token z x H2 (a7.same nx ndx b) ⟨dx,_,j_ rfl nx e,rfl⟩⟩⟩
  refine ⟨_,rfl,_,rfl,_,_,rfl,rfl,?_⟩;refine ⟨_,rfl,_,_,rfl,rfl,_,rfl,qd (λk1=>?_) (λk1=>?_)⟩
  ·have:¬ j<=30:=by
    have:=ot_ k1;omega
   exact ⟨_,rfl,yz (raise (by rw [df_ this];rfl))⟩
  have j30:j<=30:=by
   have:¬ ((30:Int) < ((q + j:Nat):Int) - (q:Int)):=λz=>k1 (dt_ z);omega
  refine ⟨_,rfl,_,_,rfl,rfl,_,rfl,qd (λk2=>?_) (λk2=>?_)⟩
  ·have j2:1 < j:=by
    have:=ot_ k2;omega
   have n1:(j == 1)=false:=by simpa using (show j≠1 by omega)
   refine ⟨_,rfl,_,rfl,a,_,_,_,rfl,rfl,hS,w6 (jjr hd),rfl,_,rfl,qd (λk3=>?_) (λk3=>?_)⟩
   ·have e48:c=48:=(yt (n:=48) (by decide)).mp (by have:=ot_ k3;injection this);refine ⟨_,rfl,yz (raise ?_)⟩;rw [n1,e48];simp
   ·have n48:c≠48:=λe=>k3 (dt_ (by rw [(yt (n:=48) (by decide)).mpr e];rfl));refine ⟨_,rfl,_,rfl,_,rfl,give ?_⟩;rw [dt_ j30];simpa using Or.inr n48
  ·have e1:j=1:=by
    have:¬ ((1:Int) < ((q + j:Nat):Int) - (q:Int)):=λz=>k2 (dt_ z);omega
   refine qd (λz=>absurd z (by decide)) (λ_=>?_);refine ⟨_,rfl,_,rfl,_,rfl,give ?_⟩;rw [dt_ j30,e1];simp
def CS(mg:Str->Option Value)(x:Str)(z:Str):Prop:=∃ t,mg x=some (.str z t)
theorem jy1{X:Cx}{x z:Str}{pos:Pos}(c:CS X.mg x z)(hg:Gl X x)(hd:(x == ("__debug__":Str))=false:=by decide):PE X (.Name x pos) (tC (.str z)):=by
 obtain ⟨t,h⟩:=c;exact jll hg h ⟨t,rfl⟩ hd
theorem vc{X:Cx}{x:Str}{a:Addr}{pos:Pos}(c:X.mg x=some (.ref a))(hg:Gl X x)(hd:(x == ("__debug__":Str))=false:=by decide):PE X (.Name x pos) (tC (.ref a)):=jll hg c rfl hd
theorem jsy{X:Cx}:PIp X .Add (λx y H Q=>∃ i j,x = .str i/\y = .str j/\i.length + j.length<=sizeLine/\Q (.str (i ++ j)) H):=jpx
theorem jty:xo [] = "":=rfl
theorem jrp(u:Bytes)(c:UInt8):xo (u ++ [c])=xo u ++ (⟨#[c.toNat]⟩:Str):=by
 show (⟨((u ++ [c]).map (·.toNat)).toArray⟩:Str)=Str.append ⟨(u.map (·.toNat)).toArray⟩ ⟨#[c.toNat]⟩;unfold Str.append;simp
theorem jhh(u:Bytes):(xo u).length=u.length:=by
 show ((u.map (·.toNat)).toArray).size=_;simp
theorem jhi{u v:Bytes}(h:xo u=xo v):u=v:=by
 have e:(u.map (·.toNat)).toArray=(v.map (·.toNat)).toArray:=Str.mk.inj h;have e:u.map (·.toNat)=v.map (·.toNat):=by simpa using e
 exact (List.map_inj_right (λa b q=>UInt8.toNat_inj.mp q)).mp e
def jcr(c:UInt8):Bool:=decide (97<=c.toNat) && decide (c.toNat<=122)
def spell(u:Bytes):Str:=if u.all jcr then xo u else ""
def jen:Str := "abcdefghijklmnopqrstuvwxyz"
theorem jst:∀ n:Nat,n < 26->jen.cps.toList[n]? = some (97 + n):=by decide
def jle(K:W.Frag):Sp:=λvs H Q _=>∃ (a:Addr) (u:Bytes),vs=[.ref a]/\az K H a (vb u)/\u.length<=900000/\Q (.str (spell u)) H
theorem jqj:jv ["word", "spelled", "byte", "at"] ["word"] (jj jfe):=fs_
theorem jxj(F:Fun K "spell_lower" "spell_lower" jfe f fd)(ml:mg "len"=none)(c1:CI mg "LOWER_A" 97)(c2:CS mg "LOWER_LETTERS" jen):xb P w K mg base (CXF P w) 1 f fd ["word"] (jle K):=by
 refine F.okF (k:=0) jqj (λvs H Q E h=>?_) (λac A outer s H vs Q E hr h=>?_)
 ·obtain ⟨a,u,rfl,_⟩:=h;rfl
 obtain ⟨a,u,rfl,hS,hu,q⟩:=h;have nd:=jqj.nd
 refine ⟨_,jc (ju (i:=1) nd rfl (Or.inl rfl) jf)
  (jc (jdm jad rfl (vz (pv 0)) (yo (i:=2) nd rfl (Or.inl rfl))
   (jc (ju (i:=3) nd rfl (Or.inl rfl) (qa jhy (pv 2) (qz c1 rfl)))
   (jc (qi (joc (jod jeb jgw qe (pv 3) (ye jo9 rfl ml PySem.boot_len (ja (jy1 c2 rfl) jb)))) (je (jp jf)) j3)
   (je (jbu (i:=1) nd rfl (Or.inl rfl) (xp j2y (jy1 c2 rfl) (pv 3) (λ_ _=>rfl)) jsy)))))
  (je (jp (pv 1)))),?_⟩
 refine ⟨_,rfl,a,rfl,⟨_,hS⟩,λi m σ H'=>H'=H/\m=u.length - i/\i<=u.length/\(∃ v2 v3,σ=[some (.ref a),some (.str (xo (u.take i))),v2,v3])/\∀ b∈u.take i,jcr b=true,⟨_,rfl,rfl,Nat.zero_le _,⟨none,none,rfl⟩,λb hb=>by simp at hb⟩,?_⟩;rintro i m σ H' ⟨rfl,rfl,hi,⟨v2,v3,rfl⟩,al⟩;by_cases am:i < u.length
 ·obtain ⟨c,r,hd,hc,_⟩:=jbg am;have hx:(vb u)[i]? = some (.int (c.toNat:Int)):=by unfold vb;rw [List.getElem?_map,hc];rfl
  refine .inr ⟨⟨_,_,hS,hx⟩,λσ' H2=>∃ m',m' < u.length - i/\(H2=H'/\m'=u.length - (i + 1)/\i + 1<=u.length/\(∃ v2 v3,σ'=[some (.ref a),some (.str (xo (u.take (i + 1)))),v2,v3])/\∀ b∈u.take (i + 1),jcr b=true),λ_ _ z=>z,?_⟩;rintro x H2 ⟨rfl,hy⟩;have ey:=hy _ hS
  rw [hx] at ey;cases ey;have l26:jen.length=26:=by decide
  have no:jcr c=false->spell u = "":=λz=>by
   unfold spell;refine if_neg λy=>?_;have:=List.all_eq_true.mp y c (List.mem_of_getElem? hc)
   rw [z] at this;cases this
  refine ⟨_,rfl,_,_,rfl,rfl,?_⟩;refine ⟨_,rfl,_,_,rfl,rfl,_,rfl,qd (λk1=>?_) (λk1=>?_)⟩
  ·have g1:97<=c.toNat:=by have:=ot_ k1;omega
   refine ⟨_,rfl,by decide,_,_,rfl,rfl,_,rfl,qd (λk2=>?_) (λk2=>?_)⟩
   ·have g2:¬ c.toNat<=122:=λz=>by
     rw [l26,dt_ (by omega)] at k2;cases k2
    rw [no (by unfold jcr;rw [df_ g2,Bool.and_false])] at q;exact q
   ·have g2:c.toNat<=122:=by
     have k3:decide ((c.toNat:Int) - 97 < (jen.length:Int))=true:=by simpa using k2
     rw [l26] at k3;have:=ot_ k3
     omega
    have lc:jcr c=true:=by unfold jcr;rw [dt_ g1,dt_ g2];rfl
    have ec:((c.toNat:Int) - 97)=((c.toNat - 97:Nat):Int):=by omega
    have eat:atI jen.cps.toList ((c.toNat:Int) - 97)=some c.toNat:=by
     rw [ec];refine ja3 ?_;rw [jst _ (by omega)]
     congr 1
     omega
    refine ⟨_,rfl,_,rfl,_,_,_,rfl,rfl,by decide,eat,_,_,rfl,rfl,?_,u.length - (i + 1),by omega,rfl,rfl,by omega,⟨some (.int (c.toNat:Int)),some (.int ((c.toNat:Int) - 97)),?_⟩,λb hb=>?_⟩
    ·rw [jhh,List.length_take];show min i u.length + 1<=2 ^ 24
     omega
    ·rw [ja_ hc,jrp];rfl
    ·rw [ja_ hc] at hb;rcases List.mem_append.mp hb with y | y
     ·exact al b y
     ·have:b=c:=by simpa using y
      rw [this];exact lc
  ·have g1:¬ 97<=c.toNat:=λz=>k1 (dt_ (by omega));refine ⟨_,rfl,qd (λ_=>?_) (λz=>absurd rfl z)⟩;rw [no (by unfold jcr;rw [df_ g1,Bool.false_and])] at q;exact q
 ·have e:i=u.length:=by omega
  subst e;rw [List.take_length] at al ⊢;have:spell u=xo u:=by unfold spell;rw [if_pos (List.all_eq_true.mpr al)]
  rw [this] at q;exact .inl ⟨⟨_,hS,by rw [xx];exact Nat.le_refl _⟩,_,rfl,q⟩
end
theorem jhd(c:UInt8):jga (c.toNat:Int)=wordByte c:=by
 unfold jga wordByte letter;rw [jcs];have h1:decide ((65:Int)<=(c.toNat:Int))=decide ((65:UInt8)<=c):=by
  apply decide_eq_decide.mpr;rw [UInt8.le_iff_toNat_le];show (65:Int)<=_↔65<=c.toNat;omega
 have h2:decide ((c.toNat:Int)<=90)=decide (c<=(90:UInt8)):=by
  apply decide_eq_decide.mpr;rw [UInt8.le_iff_toNat_le];show _<=(90:Int)↔c.toNat<=90;omega
 have h3:decide ((97:Int)<=(c.toNat:Int))=decide ((97:UInt8)<=c):=by
  apply decide_eq_decide.mpr;rw [UInt8.le_iff_toNat_le];show (97:Int)<=_↔97<=c.toNat;omega
 have h4:decide ((c.toNat:Int)<=122)=decide (c<=(122:UInt8)):=by
  apply decide_eq_decide.mpr;rw [UInt8.le_iff_toNat_le];show _<=(122:Int)↔c.toNat<=122;omega
 have h5:decide ((c.toNat:Int)=95)=(c == 95):=by
  by_cases h:c=95
  ·subst h;decide
  ·have hne:¬ ((c.toNat:Int)=95):=λe=>h ((yt (n:=95) (by decide)).mp e);rw [df_ hne];exact (beq_eq_false_iff_ne.mpr h).symm
 rw [h1,h2,h3,h4,h5];simp only [Bool.or_assoc]
def jrx:List V:=reserved.map λx=>V.str (xo x)
theorem jme:∀ x∈reserved,x.all jcr=true:=by decide +kernel
theorem jww:∀ x∈reserved,x≠[]:=by decide +kernel
theorem jwx:jrx.all jef=true:=by decide +kernel
theorem j1y(u:Bytes)(hu:u≠[]):inV (.str (spell u)) jrx=reserved.contains u:=by
 have key:∀ l:List Bytes,(∀ x∈l,x.all jcr=true)->(∀ x∈l,x≠[])->inV (.str (spell u)) (l.map λx=>V.str (xo x))=l.contains u:=by
  intro l;induction l with
  | nil=>intros;rfl
  | cons x l ih =>
   intro h1 h2;have i1:=ih (λy hy=>h1 y (List.mem_cons_of_mem _ hy)) (λy hy=>h2 y (List.mem_cons_of_mem _ hy))
   rw [List.contains_cons,<- i1];show (xo x == spell u || _)=_
   have:(xo x == spell u)=(u == x):=by
    by_cases e:u=x
    ·subst e;have:spell u=xo u:=by unfold spell;rw [h1 u (.head _)];rfl
     rw [this];simp
    ·have ne:¬ xo x=spell u:=λz=>by
      unfold spell at z;by_cases c:u.all jcr=true
      ·rw [if_pos c] at z;exact e (jhi z).symm
      ·rw [if_neg c] at z;exact h2 x (.head _) (jhi (z.trans jty.symm))
     rw [beq_eq_false_iff_ne.mpr ne,beq_eq_false_iff_ne.mpr e]
   rw [this];rfl
 exact key reserved jme jww
theorem juk{u:Bytes}(h:reserved.contains u=true):spell u=xo u:=by
 have m:u∈reserved:=by simpa using h
 unfold spell;rw [jme u m];rfl
def je3(K:W.Frag)(mg:Str->Option Value)(x:Str)(vs:List V):Prop:=∃ a,mg x=some (.ref a)/\∀ H,be K H a vs
theorem j24{t:Bytes}{q j:Nat}(h:q + j<=t.length):jfp (vb t) (some (q:Int)) (some ((q + j:Nat):Int))=vb ((t.drop q).take j):=by
 unfold jfp;rw [HT.jf1,HT.jf1,xx,Nat.min_eq_left (show q<=t.length by omega),Nat.min_eq_left h];unfold vb;rw [<- List.map_drop,<- List.map_take]
 congr 2
 omega
section
variable{P:Program}{w:World}{K:W.Frag}{mg:Str->Option Value}{base:Heap}{f g g2 CF fI CT tI:Addr}{fd gd gd2 au aw:FuncData}
theorem jt6:jv ["text", "place", "end", "word", "spelled"] ["text", "place"] (jj jjg):=fs_
theorem jz6(F:Fun K "cut_word" "cut_word" jjg f fd)(T:v8 K mg CF fI au)(U:zz K mg CT tI aw)(G:xb P w K mg base (CXF P w) 2 g gd ["byte"] jif)(bG:zl K gd ["byte"] [])(kG:PySem.W.keepIn K (.ref g)=true)
  (mG:mg "is_word_byte"=some (.ref g)) (S:xb P w K mg base (CXF P w) 1 g2 gd2 ["word"] (jle K)) (bS:zl K gd2 ["word"] []) (kS:PySem.W.keepIn K (.ref g2)=true)
  (mS:mg "spell_lower"=some (.ref g2)) (ml:mg "len"=none) (R:je3 K mg "RESERVED" jrx) (c2:CI mg "LONGEST_WORD" 16) (c3:CI mg "WRONG_TOKEN" 2):xb P w K mg base (CXF P w) 3 f fd ["text", "place"] (jal K CF CT λc=>letter c=true):=by
 refine F.okF (k:=2) jt6 (λvs H Q E h=>?_) (λac A outer s H vs Q E hr h=>?_)
 ·obtain ⟨a,t,r,q,c,rfl,_⟩:=h;rfl
 obtain ⟨a,t,r,q,c,rfl,hS,ak,hd,hc,k⟩:=h;obtain ⟨ra,mR,sR⟩:=R;have nd:=jt6.nd
 refine ⟨_,jc (ju (i:=2) nd rfl (Or.inl rfl) (pv 1))
  (jc (z6 jad (PW.pt (jcn (js jgw (pv 2) (ye xu rfl ml PySem.boot_len (ja (pv 0) jb)) (j9 _))
    (jb_ (jez (v7 G hr rfl mG kG bG .nil w8 (ja (xp qv (pv 0) (pv 2) (λ_ _=>rfl)) jb))))))
   (je (jbu (i:=2) nd rfl (Or.inl rfl) qe jdr)))
  (jc (qi (js jec (qa jhy (pv 2) (pv 1)) (qz c2 rfl) (j9 _))
    (je (we T hr rfl (ja (qz c3 rfl) (ja (pv 1) jb)))) j3)
  (jc (ju (i:=3) nd rfl (Or.inl rfl) (jc0 jek (pv 0) (jca (pv 1)) (jca (pv 2))))
  (jc (ju (i:=4) nd rfl (Or.inl rfl) (v7 S (hr.mono (by decide)) rfl mS kS bS .nil w8 (ja (pv 3) jb)))
  (jc (qi (js zn (pv 4) (vc mR rfl) rfl)
   (je (jp (jbq U.make (jgy U) hr rfl U.c.m U.b .nil w8 (ja (pv 4) (ja (pv 1) (ja (pv 2) (ja jf3 jb))))))) j3)
  (je (jp (jbq U.make (jgy U) hr rfl U.c.m U.b .nil w8 (ja jf (ja (pv 1) (ja (pv 2) (ja (pv 3) jb))))))))))))
  ,?_⟩
 have hq:q < t.length:=(Cell.drop_one hd).2;have lenu:(t.drop q).length=t.length - q:=List.length_drop
 refine ⟨_,rfl,?_⟩;refine ⟨λm σ H'=>H'=H/\∃ (j:Nat),σ=[some (.ref a),some (.int (q:Int)),some (.int ((q + j:Nat):Int)),none,none]/\m=t.length - (q + j)/\q + j<=t.length/\∀ b∈(t.drop q).take j,wordByte b=true,
  ⟨_,rfl,0,rfl,rfl,by omega,λb hb=>by simp at hb⟩,?_⟩
 rintro m σ H' ⟨rfl,j,rfl,rfl,hj,al⟩;refine (λ(fin:(j=(t.drop q).length\/∃ c,(t.drop q)[j]? = some c/\wordByte c=false)->?A)=>?main) ?fin
 case main =>
  refine ⟨_,rfl,_,rfl,a,_,rfl,.inl hS,_,_,rfl,rfl,_,rfl,qd (λc1=>?_) (λc1=>?_)⟩
  ·have am:q + j < t.length:=by
    have:=ot_ c1;rw [xx] at this;omega
   obtain ⟨b,r2,hd2,hb,_⟩:=jbg am;refine ⟨_,rfl,_,rfl,a,_,_,_,rfl,rfl,hS,w6 hb,_,rfl,_,rfl,qd (λc2=>?_) (λc2=>?_)⟩
   ·rw [jhd] at c2;refine ⟨λσ' H2=>∃ m',m' < t.length - (q + j)/\(H2=H'/\∃ (j:Nat),σ'=[some (.ref a),some (.int (q:Int)),some (.int ((q + j:Nat):Int)),none,none]/\m'=t.length - (q + j)/\q + j<=t.length/\∀ b∈(t.drop q).take j,wordByte b=true),λ_ _ z=>z,?_⟩;have e1:(t.drop q)[j]? = some b:=by rw [jiu];exact hb
    refine ⟨_,rfl,_,_,rfl,rfl,t.length - (q + (j + 1)),by omega,rfl,j + 1,rfl,rfl,by omega,λz hz=>?_⟩;rw [ja_ e1] at hz;rcases List.mem_append.mp hz with y | y
    ·exact al z y
    ·have:z=b:=by simpa using y
     rw [this];exact c2
   ·refine fin (.inr ⟨b,by rw [jiu];exact hb,?_⟩);rw [<- jhd];exact Bool.eq_false_iff.mpr c2
  ·refine fin (.inl ?_);have:¬ (((q + j:Nat):Int) < ((vb t).length:Int)):=λz=>c1 (dt_ z)
   rw [xx] at this;omega
 case fin =>
  intro e;have tw:=tw_end al e
  have jl:((t.drop q).takeWhile wordByte).length=j:=by rw [tw,List.length_take,lenu];omega
  have lx:lexAt (t.drop q)=if ((t.drop q).takeWhile wordByte).length<=16 then some (.word ((t.drop q).takeWhile wordByte),((t.drop q).takeWhile wordByte).length) else none:=by
   rw [hd];show (if letter c then _ else if digit c then _ else _)=_
   rw [hc];rfl
  have j1:1<=j:=by
   have wc:wordByte c=true:=by unfold wordByte;rw [hc];rfl
   rw [hd,List.takeWhile_cons,wc,if_pos rfl,List.length_cons] at jl;omega
  rw [lx,jl,tw] at k;refine ⟨_,rfl,_,rfl,_,_,rfl,rfl,_,_,rfl,rfl,_,rfl,qd (λk1=>?_) (λk1=>?_)⟩
  ·have:¬ j<=16:=by
    have:=ot_ k1;omega
   rw [if_neg this] at k;exact ⟨_,rfl,yz k⟩
  have j16:j<=16:=by
   have:¬ ((16:Int) < ((q + j:Nat):Int) - (q:Int)):=λz=>k1 (dt_ z);omega
  rw [if_pos j16] at k;have ne:(t.drop q).take j≠[]:=λz=>by
   have:=congrArg List.length z;rw [List.length_take,lenu,List.length_nil] at this;omega
  refine ⟨_,rfl,_,rfl,_,rfl,_,rfl,_,rfl,a,_,rfl,hS,λp np=>?_⟩;rw [j24 hj];have sm:jg H' (upd H' p (.lst (vb ((t.drop q).take j)))):=jo np _
  refine ⟨_,rfl,p,_,rfl,az.of jd,by rw [List.length_take,lenu];omega,?_⟩;refine ⟨_,rfl,ra,_,rfl,.inr (sR _),rfl,jwx,_,rfl,?_⟩;rw [if_neg Bool.false_ne_true,j1y _ ne];refine qd (λk2=>?_) (λk2=>?_)
  ·have ks:jy (.word ((t.drop q).take j))=spell ((t.drop q).take j):=by
    rw [juk k2];show (if reserved.contains _ then _ else _)=_
    rw [if_pos k2]
   refine ⟨_,rfl,_,rfl,_,rfl,λx dx nx ndx ne=>⟨x,dx,_,_,_,_,rfl,jd,λH2 b e=>⟨rfl,k x H2 (sm.trans (a7.same nx ndx b)) ⟨dx,.non,?_,?_⟩⟩⟩⟩
   ·show ay noH H' H2 x=some (.ins CT dx (jdw (jy (.word ((t.drop q).take j))) _ _ _));rw [ks];exact j_ rfl (jk sm nx) e
   ·show if reserved.contains _ then _ else _
    rw [if_pos k2]
  ·have ks:jy (.word ((t.drop q).take j)) = "NAME":=by
    show (if reserved.contains _ then _ else _)=_;rw [if_neg k2]
   refine ⟨_,rfl,_,rfl,_,rfl,λx dx nx ndx ne=>⟨x,dx,_,_,_,_,rfl,jd,λH2 b e=>⟨rfl,k x H2 (sm.trans (a7.same nx ndx b)) ⟨dx,.ref p,?_,?_⟩⟩⟩⟩
   ·show ay noH H' H2 x=some (.ins CT dx (jdw (jy (.word ((t.drop q).take j))) _ _ _));rw [ks];exact j_ rfl (jk sm nx) e
   ·show if reserved.contains _ then _ else _
    rw [if_neg k2];exact ⟨p,rfl,j_ rfl np (a7.same nx ndx b _ _ jd)⟩
end
open Vanbka (quotedFrom)
theorem j15(r:Bytes):quotedFrom (34::r)=some ([],1):=by rw [quotedFrom]
theorem jzu(r:Bytes):quotedFrom (10::r)=none:=by rw [quotedFrom]
theorem jw2{c:UInt8}(r:Bytes)(h1:c≠34)(h2:c≠10)(h3:c≠92):quotedFrom (c::r)=(quotedFrom r).map λx=>(c::x.1,x.2 + 1):=by
 rw [quotedFrom];all_goals first | exact h1 | exact h2 | exact h3 | exact λ_ z _=>absurd z h3
def jlv(c:UInt8):Option UInt8:=if c=92 then some 92 else if c=34 then some 34 else if c=110 then some 10 else none
theorem j14{c d:UInt8}(r:Bytes)(h:jlv c=some d):quotedFrom (92::c::r)=(quotedFrom r).map λx=>(d::x.1,x.2 + 2):=by
 unfold jlv at h;by_cases h1:c=92
 ·rw [if_pos h1] at h;cases h;subst h1;rw [quotedFrom]
 rw [if_neg h1] at h;by_cases h2:c=34
 ·rw [if_pos h2] at h;cases h;subst h2;rw [quotedFrom]
 rw [if_neg h2] at h;by_cases h3:c=110
 ·rw [if_pos h3] at h;cases h;subst h3;rw [quotedFrom]
 rw [if_neg h3] at h;cases h
theorem j17{c:UInt8}(r:Bytes)(h:jlv c=none):quotedFrom (92::c::r)=none:=by
 have h1:c≠92:=λz=>by subst z;cases h
 have h2:c≠34:=λz=>by subst z;cases h
 have h3:c≠110:=λz=>by subst z;cases h
 rw [quotedFrom]
 ·intro r' z;injection z with z1 z2;exact h1 z1
 ·intro r' z;injection z with z1 z2;exact h2 z1
 ·intro r' z;injection z with z1 z2;exact h3 z1
theorem j13:quotedFrom [92]=none:=by rw [quotedFrom] <;> intro r z <;> cases z
def jlu:List (Key×V):=[(.inl 92,.int 92),(.inl 34,.int 34),(.inl 110,.int 10)]
theorem jq2(c:UInt8):zf jlu (.inl (c.toNat:Int))=(jlv c).map λd=>V.int (d.toNat:Int):=by
 unfold jlv;by_cases h1:c=92
 ·subst h1;rfl
 by_cases h2:c=34
 ·subst h2;rfl
 by_cases h3:c=110
 ·subst h3;rfl
 rw [if_neg h1,if_neg h2,if_neg h3];have ne:∀ (n:Nat),n < 256->c≠UInt8.ofNat n->¬ (Sum.inl (n:Int):Key)=Sum.inl (c.toNat:Int):=λn hn z e=>by
  injection e with e;exact z ((yt hn).mp e.symm)
 unfold jlu;rw [zx (ne 92 (by decide) h1),zx (ne 34 (by decide) h2),zx (ne 110 (by decide) h3)];rfl
theorem zm{H H':Hp}{l:Addr}{o:HO}(s:jg H H')(n:H l=none):jg H (upd H' l o):=λb u q=>by rw [jm (qu q n)];exact s b u q
theorem jp_(u:Bytes)(c:UInt8):vb (u ++ [c])=vb u ++ [.int (c.toNat:Int)]:=by unfold vb;simp
section
variable{P:Program}{w:World}{K:W.Frag}{mg:Str->Option Value}{base:Heap}{f g g2 CF fI CT tI:Addr}{fd gd gd2 au aw:FuncData}
def KD(w:World)(K:W.Frag)(mg:Str->Option Value)(x:Str)(ae:List (Key×V)):Prop:=∃ a,mg x=some (.ref a)/\jct w K a ae
theorem jn1:jv ["text", "place", "said", "at", "byte"] ["text", "place"] (jj jgp):=fs_
theorem ju0(F:Fun K "cut_quoted" "cut_quoted" jgp f fd)(T:v8 K mg CF fI au)(U:zz K mg CT tI aw)(ml:mg "len"=none)(R:KD w K mg "ESCAPED" jlu)(c1:CI mg "QUOTE" 34)(c2:CI mg "LINE_FEED" 10)(c3:CI mg "BACKSLASH" 92)(c4:CI mg "WRONG_TOKEN" 2) :
  xb P w K mg base (CXF P w) 3 f fd ["text", "place"] (jal K CF CT λc=>c=34):=by
 refine F.okF (k:=2) jn1 (λvs H Q E h=>?_) (λac A outer s H vs Q E hr h=>?_)
 ·obtain ⟨a,t,r,q,c,rfl,_⟩:=h;rfl
 obtain ⟨a,t,r,q,c,rfl,hS,ak,hd,rfl,k⟩:=h;obtain ⟨ra,mR,dR⟩:=R;have nd:=jn1.nd
 refine ⟨_,jc (ju (i:=2) nd rfl (Or.inl rfl) (j5 jb))
  (jc (ju (i:=3) nd rfl (Or.inl rfl) (qa jbx (pv 1) qe))
  (jc (z6 jad (PW.pt (jcn (js jgw (pv 3) (ye xu rfl ml PySem.boot_len (ja (pv 0) jb)) (j9 _))
    (jcn (js jea (xp qv (pv 0) (pv 3) (λ_ _=>rfl)) (qz c1 rfl) (j9 _)) (jb_ (js jea (xp qv (pv 0) (pv 3) (λ_ _=>rfl)) (qz c2 rfl) (j9 _))))))
   (jc (ju (i:=4) nd rfl (Or.inl rfl) (xp qv (pv 0) (pv 3) (λ_ _=>rfl)))
   (jc (qi (js xi (pv 4) (qz c3 rfl) (j9 _))
    (jc (jbu (i:=3) nd rfl (Or.inl rfl) qe jdr)
    (jc (qi (PW.pt (jr1 (js xi (pv 3) (ye xu rfl ml PySem.boot_len (ja (pv 0) jb)) (j9 _)) (job (js juu (xp qv (pv 0) (pv 3) (λ_ _=>rfl)) (vc mR rfl) rfl))))
     (je (we T hr rfl (ja (qz c4 rfl) (ja (pv 1) jb)))) j3)
    (je (ju (i:=4) nd rfl (Or.inl rfl) (jc1 (vc mR rfl) (xp qv (pv 0) (pv 3) (λ_ _=>rfl)) (λ_ _=>rfl)))))) j3)
   (jc (j6 (vd PySem.F.plainAttrs_list PySem.F.slot_list_append PySem.F.type_list_append zh (pv 2) (ja (pv 4) jb)))
   (je (jbu (i:=3) nd rfl (Or.inl rfl) qe jdr))))))
  (jc (qi (PW.pt (jr1 (js xi (pv 3) (ye xu rfl ml PySem.boot_len (ja (pv 0) jb)) (j9 _)) (job (js xi (xp qv (pv 0) (pv 3) (λ_ _=>rfl)) (qz c2 rfl) (j9 _)))))
    (je (we T hr rfl (ja (qz c4 rfl) (ja (pv 1) jb)))) j3)
  (je (jp (jbq U.make (jgy U) hr rfl U.c.m U.b .nil w8 (ja jf (ja (pv 1) (ja (qa jbx (pv 3) qe) (ja (pv 2) jb)))))))))),?_⟩
 have hq:q < t.length:=(Cell.drop_one hd).2;have hr0:t.drop (q + 1)=r:=(Cell.drop_one hd).1
 have lx:lexAt (t.drop q)=(quotedFrom (t.drop (q + 1))).map λx=>(Lex.quoted x.1,x.2 + 1):=by
  rw [hd,hr0];rfl
 rw [lx] at k;refine ⟨by decide,λl nl=>⟨_,rfl,_,_,rfl,rfl,?_⟩⟩;refine ⟨λm σ H'=>jg H H'/\∃ (j:Nat) (sd:Bytes) (v4:Option V),σ=[some (.ref a),some (.int (q:Int)),some (.ref l),some (.int (j:Int)),v4]/\H' l=some (.lst (vb sd))/\m=t.length - j/\q + 1<=j/\j<=t.length/\sd.length<=j/\
   quotedFrom (t.drop (q + 1))=(quotedFrom (t.drop j)).map (λx=>(sd ++ x.1,(j - (q + 1)) + x.2)),
  ⟨_,jo nl _,q + 1,[],none,rfl,jd,rfl,Nat.le_refl _,hq,Nat.zero_le _,?_⟩,?_⟩
 ·rw [Nat.sub_self];cases quotedFrom (t.drop (q + 1)) with
  | none=>rfl
  | some x=>simp
 rintro m σ H' ⟨sm,j,sd,v4,rfl,hl,rfl,hj1,hj,hsd,inv⟩;have hS':=sm.seq hS
 refine (λ(fin:(j=t.length\/t[j]? = some 34\/t[j]? = some 10)->?A)=>?main) ?fin
 case main =>
  refine ⟨_,rfl,_,rfl,a,_,rfl,.inl hS',_,_,rfl,rfl,_,rfl,qd (λk1=>?_) (λk1=>?_)⟩
  ·have am:j < t.length:=by
    have:=ot_ k1;rw [xx] at this;omega
   obtain ⟨b,r2,hd2,hb,hr2⟩:=jbg am;refine ⟨_,rfl,_,rfl,a,_,_,_,rfl,rfl,hS',w6 hb,rfl,_,rfl,qd (λk2=>?_) (λk2=>?_)⟩
   ·have n34:b≠34:=λe=>by
     rw [dt_ (show V.int (b.toNat:Int)=V.int 34 by rw [(yt (n:=34) (by decide)).mpr e];rfl)] at k2;cases k2
    refine ⟨_,rfl,_,rfl,a,_,_,_,rfl,rfl,hS',w6 hb,rfl,_,rfl,qd (λk3=>?_) (λk3=>?_)⟩
    ·have n10:b≠10:=λe=>by
      rw [dt_ (show V.int (b.toNat:Int)=V.int 10 by rw [(yt (n:=10) (by decide)).mpr e];rfl)] at k3;cases k3
     refine ⟨λσ' H2=>∃ m',m' < t.length - j/\(jg H H2/\∃ (j:Nat) (sd:Bytes) (v4:Option V),σ'=[some (.ref a),some (.int (q:Int)),some (.ref l),some (.int (j:Int)),v4]/\H2 l=some (.lst (vb sd))/\m'=t.length - j/\q + 1<=j/\j<=t.length/\sd.length<=j/\
       quotedFrom (t.drop (q + 1))=(quotedFrom (t.drop j)).map (λx=>(sd ++ x.1,(j - (q + 1)) + x.2))),λ_ _ z=>z,?_⟩
     refine ⟨_,rfl,_,rfl,a,_,_,_,rfl,rfl,hS',w6 hb,?_⟩;have push:∀ (d:UInt8) (e:Nat),1<=e->j + e<=t.length->quotedFrom (t.drop j)=(quotedFrom (t.drop (j + e))).map (λx=>(d::x.1,x.2 + e))->
       ∃ m',m' < t.length - j/\(jg H (upd H' l (.lst (vb sd ++ [.int (d.toNat:Int)])))/\∃ (j2:Nat) (sd2:Bytes) (v4:Option V),([some (.ref a),some (.int (q:Int)),some (.ref l),some (.int ((j + e:Nat):Int)),some (.int (d.toNat:Int))]:St)=[some (.ref a),some (.int (q:Int)),some (.ref l),some (.int (j2:Int)),v4]/\
        upd H' l (.lst (vb sd ++ [.int (d.toNat:Int)])) l=some (.lst (vb sd2))/\m'=t.length - j2/\q + 1<=j2/\j2<=t.length/\sd2.length<=j2/\quotedFrom (t.drop (q + 1))=(quotedFrom (t.drop j2)).map (λx=>(sd2 ++ x.1,(j2 - (q + 1)) + x.2))):=by
      intro d e e1 hje hqf;refine ⟨t.length - (j + e),by omega,zm sm nl,j + e,sd ++ [d],_,rfl,?_,rfl,by omega,hje,?_,?_⟩
      ·rw [jd,jp_]
      ·rw [List.length_append,List.length_singleton];omega
      ·rw [inv,hqf,Option.map_map]
       congr 1
       funext x
       simp only [Function.comp,List.append_assoc,List.singleton_append]
       congr 1
       omega
     have small:(vb sd).length < sizeLine:=by
      rw [xx];show sd.length < 2 ^ 24
      omega
     refine ⟨_,rfl,rfl,_,rfl,qd (λk4=>?_) (λk4=>?_)⟩
     ·have e92:b=92:=(yt (n:=92) (by decide)).mp (by have:=ot_ k4;injection this);subst e92;refine ⟨_,rfl,_,_,rfl,rfl,?_⟩;refine ⟨_,rfl,_,rfl,a,_,rfl,.inl hS',rfl,_,rfl,qd (λk5=>?_) (λk5=>?_)⟩
      ·have ej:j + 1=t.length:=by
        have:=ot_ k5;injection this with this;rw [xx] at this;have:(j:Int) + 1=(t.length:Int):=this
        omega
       have z:quotedFrom (t.drop j)=none:=by
        rw [hd2,<- hr2,ej,List.drop_length,j13]
       rw [z] at inv;rw [inv] at k;exact ⟨_,rfl,yz k⟩
      ·have hlt1:j + 1 < t.length:=by
        have:¬ (j + 1=t.length):=λz=>k5 (dt_ (by rw [xx,<- z];rfl));omega
       obtain ⟨d,r3,hd3,hb3,hr3⟩:=jbg hlt1;have dj:t.drop j=92::d::r3:=by rw [hd2,<- hr2,hd3]
       refine ⟨_,rfl,_,rfl,a,_,_,_,rfl,rfl,hS',w6 hb3,ra,jlu,.inl (d.toNat:Int),rfl,dR,rfl,_,rfl,?_⟩;rw [if_pos rfl,jq2,Option.isSome_map];cases hE:jlv d with
       | none =>
        refine qd (λ_=>?_) (λz=>absurd rfl z);rw [dj,j17 r3 hE] at inv;rw [inv] at k;exact ⟨_,rfl,yz k⟩
       | some d2 =>
        refine qd (λz=>absurd z Bool.false_ne_true) (λ_=>?_);refine ⟨_,rfl,_,rfl,a,_,_,_,rfl,rfl,hS',w6 hb3,ra,jlu,.inl (d.toNat:Int),_,rfl,dR,rfl,(by rw [jq2,hE];rfl),?_⟩;refine ⟨_,rfl,.inl ⟨rfl,_,az.of hl⟩,_,rfl,l,_,_,rfl,rfl,hl,small,?_⟩;refine ⟨_,rfl,_,_,rfl,rfl,push d2 2 (by decide) (by omega) ?_⟩;rw [dj,j14 r3 hE,<- hr3]
     ·have n92:b≠92:=λe=>k4 (dt_ (by rw [(yt (n:=92) (by decide)).mpr e];rfl));refine ⟨_,rfl,.inl ⟨rfl,_,az.of hl⟩,_,rfl,l,_,_,rfl,rfl,hl,small,?_⟩;refine ⟨_,rfl,_,_,rfl,rfl,push b 1 (by decide) (by omega) ?_⟩;rw [hd2,jw2 r2 n34 n10 n92,hr2]
    ·have e10:b=10:=(yt (n:=10) (by decide)).mp (by
      have:decide (V.int (b.toNat:Int)=V.int 10)=true:=by simpa using k3
      have:=ot_ this;injection this)
     exact fin (.inr (.inr (e10▸hb)))
   ·have e34:b=34:=(yt (n:=34) (by decide)).mp (by
     have:decide (V.int (b.toNat:Int)=V.int 34)=true:=by simpa using k2
     have:=ot_ this;injection this)
    refine qd (λz=>absurd z (by decide)) (λ_=>?_);exact fin (.inr (.inl (e34▸hb)))
  ·refine qd (λz=>absurd z (by decide)) (λ_=>?_);refine fin (.inl ?_);have:¬ ((j:Int) < ((vb t).length:Int)):=λz=>k1 (dt_ z)
   rw [xx] at this;omega
 case fin =>
  intro e;refine ⟨_,rfl,_,rfl,a,_,rfl,.inl hS',rfl,_,rfl,qd (λk1=>?_) (λk1=>?_)⟩
  ·have ej:j=t.length:=by
    have:=ot_ k1;injection this with this;rw [xx] at this;omega
   rw [ej,List.drop_length] at inv;rw [inv] at k;exact ⟨_,rfl,yz k⟩
  ·have am:j < t.length:=by
    have:¬ (j=t.length):=λz=>k1 (dt_ (by rw [xx,<- z]));omega
   obtain ⟨b,r2,hd2,hb,hr2⟩:=jbg am;refine ⟨_,rfl,_,rfl,a,_,_,_,rfl,rfl,hS',w6 hb,rfl,_,rfl,qd (λk2=>?_) (λk2=>?_)⟩
   ·have e10:b=10:=(yt (n:=10) (by decide)).mp (by have:=ot_ k2;injection this);rw [hd2,e10,jzu] at inv;rw [inv] at k;exact ⟨_,rfl,yz k⟩
   ·have n10:b≠10:=λe=>k2 (dt_ (by rw [(yt (n:=10) (by decide)).mpr e];rfl));have e34:b=34:=by
     rw [hb] at e;rcases e with e | e | e
     ·omega
     ·exact Option.some.inj e
     ·exact absurd (Option.some.inj e) n10
    rw [hd2,e34,j15] at inv;rw [inv] at k;refine ⟨_,rfl,_,rfl,_,_,rfl,rfl,_,rfl,λx dx nx ndx ne=>⟨x,dx,_,_,_,_,rfl,jd,λH2 b e=>⟨rfl,k x H2 (sm.trans (a7.same nx ndx b)) ⟨dx,.ref l,?_,?_⟩⟩⟩⟩
    ·have ee:((j:Int) + 1)=((q + (j - (q + 1) + 1 + 1):Nat):Int):=by omega
     rw [ee] at e;exact j_ rfl (jk sm nx) e
    ·exact ⟨l,rfl,j_ rfl nl (a7.same nx ndx b _ _ (by show H' l=some (.lst (vb (sd ++ [])));rw [List.append_nil];exact hl))⟩
end
open Vanbka (doubleSigns singleSigns)
def jg4(u:Bytes):List Key:=u.map λc=>Sum.inl (c.toNat:Int)
theorem j0s(u:Bytes):(jg4 u).map kV=vb u:=by
 unfold jg4 vb;rw [List.map_map];rfl
theorem jx4{u v:Bytes}(h:jg4 u=jg4 v):u=v:=by
 refine (List.map_inj_right (λa b q=>?_)).mp h;injection q with q;exact UInt8.toNat_inj.mp (by omega)
def twoV:List (List Key×V):=doubleSigns.map λx=>(jg4 x,V.str (xo x))
theorem two_val(u:Bytes):zf twoV (jg4 u)=if doubleSigns.contains u then some (.str (xo u)) else none:=by
 have key:∀ l:List Bytes,zf (l.map λx=>(jg4 x,V.str (xo x))) (jg4 u)=if l.contains u then some (.str (xo u)) else none:=by
  intro l;induction l with
  | nil=>rfl
  | cons x l ih =>
   rw [List.map_cons,List.contains_cons];by_cases e:u=x
   ·subst e;rw [ja9 rfl];simp
   ·rw [zx (λz=>e (jx4 z).symm),ih,beq_eq_false_iff_ne.mpr e,Bool.false_or]
 exact key doubleSigns
def jlm:List (Key×V):=[(.inl 37,.str "percent"),(.inl 40,.str "("),(.inl 41,.str ")"),(.inl 42,.str "*"),(.inl 43,.str "+"),(.inl 44,.str ","),(.inl 45,.str "-"),(.inl 46,.str "."),(.inl 47,.str "/"),(.inl 58,.str ":"),(.inl 59,.str ";"),
 (.inl 60,.str "<"),(.inl 61,.str "="),(.inl 62,.str ">"),(.inl 63,.str "?"),(.inl 91,.str "["),(.inl 93,.str "]"),(.inl 123,.str "{"),(.inl 125,.str "}")]
theorem jz5:∀ n:Fin 256,zf jlm (.inl ((n.val:Nat):Int))=if singleSigns.contains (UInt8.ofNat n.val) then some (.str (jy (.sign [UInt8.ofNat n.val]))) else none:=by decide +kernel
theorem jqt(c:UInt8):zf jlm (.inl (c.toNat:Int))=if singleSigns.contains c then some (.str (jy (.sign [c]))) else none:=by
 have h:=jz5 ⟨c.toNat,c.toNat_lt⟩;have e:UInt8.ofNat c.toNat=c:=by simp
 simp only [e] at h;exact h
theorem two_kind{u:Bytes}(h:doubleSigns.contains u=true):jy (.sign u)=xo u:=by
 have m:u∈doubleSigns:=by simpa using h
 have key:∀ x∈doubleSigns,jy (.sign x)=xo x:=by decide +kernel
 exact key u m
theorem j0y{t:Bytes}{q:Nat}(h:q<=t.length):jfp (vb t) (some (q:Int)) (some ((q:Int) + 2))=vb ((t.drop q).take 2):=by
 have e:((q:Int) + 2)=((q + 2:Nat):Int):=by omega
 unfold jfp;rw [e,HT.jf1,HT.jf1,xx,Nat.min_eq_left h];unfold vb;rw [<- List.map_drop,<- List.map_take]
 congr 1
 by_cases c:q + 2<=t.length
 ·rw [Nat.min_eq_left c]
  congr 1
  omega
 ·rw [Nat.min_eq_right (by omega),List.take_of_length_le (by rw [List.length_drop];omega),List.take_of_length_le (by rw [List.length_drop];omega)]
section
variable{P:Program}{w:World}{K:W.Frag}{mg:Str->Option Value}{base:Heap}{f g g2 CF fI CT tI:Addr}{fd gd gd2 au aw:FuncData}
def KDT(P:Program)(w:World)(K:W.Frag)(mg:Str->Option Value)(x:Str)(ae:List (List Key×V)):Prop:=∃ a,mg x=some (.ref a)/\jk8 P w K a ae
theorem jua:jv ["text", "place", "pair"] ["text", "place"] (jj jjh):=fs_
theorem jz_(F:Fun K "cut_sign" "cut_sign" jjh f fd)(T:v8 K mg CF fI au)(U:zz K mg CT tI aw)(mt:mg "tuple"=none)(R2:KDT P w K mg "TWO_BYTE_SIGNS" twoV)(R1:KD w K mg "ONE_BYTE_SIGNS" jlm)(c4:CI mg "WRONG_TOKEN" 2) :
  xb P w K mg base (CXF P w) 3 f fd ["text", "place"] (jal K CF CT λc=>letter c=false/\digit c=false/\c≠34):=by
 refine F.okF (k:=2) jua (λvs H Q E h=>?_) (λac A outer s H vs Q E hr h=>?_)
 ·obtain ⟨a,t,r,q,c,rfl,_⟩:=h;rfl
 obtain ⟨a,t,r,q,c,rfl,hS,ak,hd,⟨n1,n2,n3⟩,k⟩:=h;obtain ⟨a2,m2,d2⟩:=R2;obtain ⟨a1,m1,d1⟩:=R1;have nd:=jua.nd
 have hu:=j34 hr;refine ⟨_,jc (ju (i:=2) nd rfl (Or.inl rfl) (je_ jm6 rfl mt rfl (ja (jc0 jek (pv 0) (jca (pv 1)) (jca (qa jbx (pv 1) qe))) jb)))
  (jc (qi (js (jz2 hu) (pv 2) (vc m2 rfl) rfl)
   (je (jp (jbq U.make (jgy U) hr rfl U.c.m U.b .nil w8 (ja (jut hu (vc m2 rfl) (pv 2) (λ_ _=>rfl)) (ja (pv 1) (ja (qa jbx (pv 1) qe) (ja jf3 jb))))))) j3)
  (jc (qi (js jhz (xp qv (pv 0) (pv 1) (λ_ _=>rfl)) (vc m1 rfl) rfl)
   (je (jp (jbq U.make (jgy U) hr rfl U.c.m U.b .nil w8 (ja (jc1 (vc m1 rfl) (xp qv (pv 0) (pv 1) (λ_ _=>rfl)) (λ_ _=>rfl)) (ja (pv 1) (ja (qa jbx (pv 1) qe) (ja jf3 jb))))))) j3)
  (je (we T hr rfl (ja (qz c4 rfl) (ja (pv 1) jb)))))),?_⟩
 have hq:q < t.length:=(Cell.drop_one hd).2;have hc:t[q]? = some c:=jjr hd
 have lx:lexAt (t.drop q)=if doubleSigns.contains ((t.drop q).take 2) then some (.sign ((t.drop q).take 2),2) else if singleSigns.contains c then some (.sign [c],1) else none:=by
  rw [hd];show (if letter c then _ else if digit c then _ else if c == 34 then _ else _)=_
  rw [n1,n2,beq_eq_false_iff_ne.mpr n3];rfl
 rw [lx] at k;refine ⟨_,rfl,_,rfl,_,rfl,_,rfl,_,_,rfl,rfl,_,rfl,a,_,rfl,hS,λp np=>?_⟩;rw [j0y (by omega)];refine ⟨p,_,rfl,.inl ⟨az.of jd,λl nl=>?_⟩⟩;have sm:jg H (upd (upd H p (.lst (vb ((t.drop q).take 2)))) l (.tup (vb ((t.drop q).take 2)))):=(jo np _).trans (jo nl _)
 have hS':=sm.seq hS;have hl:(upd (upd H p (.lst (vb ((t.drop q).take 2)))) l (.tup (vb ((t.drop q).take 2)))) l=some (.tup ((jg4 ((t.drop q).take 2)).map kV)):=by rw [jd,j0s]
 refine ⟨_,rfl,a2,twoV,l,_,rfl,d2,rfl,hl,_,rfl,?_⟩;rw [two_val];by_cases cD:doubleSigns.contains ((t.drop q).take 2)=true
 ·rw [if_pos cD] at k ⊢;refine qd (λ_=>?_) (λz=>absurd rfl z);refine ⟨_,rfl,a2,twoV,l,_,_,rfl,d2,rfl,hl,(by rw [two_val,if_pos cD]),_,rfl,_,rfl,_,_,rfl,rfl,λx dx nx ndx ne=>⟨x,dx,_,_,_,_,rfl,jd,λH2 b e=>⟨rfl,k x H2 (sm.trans (a7.same nx ndx b)) ⟨dx,.non,?_,rfl⟩⟩⟩⟩;show ay noH H H2 x=some (.ins CT dx (jdw (jy (.sign _)) _ _ _))
  rw [two_kind cD];exact j_ rfl (jk sm nx) e
 ·rw [if_neg cD] at k ⊢;refine qd (λz=>absurd z Bool.false_ne_true) (λ_=>?_);refine ⟨_,rfl,_,rfl,a,_,_,_,rfl,rfl,hS',w6 hc,a1,jlm,.inl (c.toNat:Int),rfl,d1,rfl,_,rfl,?_⟩;rw [if_neg Bool.false_ne_true,jqt];by_cases cS:singleSigns.contains c=true
  ·rw [if_pos cS] at k ⊢;refine qd (λ_=>?_) (λz=>absurd rfl z);refine ⟨_,rfl,_,rfl,a,_,_,_,rfl,rfl,hS',w6 hc,a1,jlm,.inl (c.toNat:Int),_,rfl,d1,rfl,(by rw [jqt,if_pos cS]),_,rfl,_,rfl,_,_,rfl,rfl,λx dx nx ndx ne=>⟨x,dx,_,_,_,_,rfl,jd,λH2 b e=>⟨rfl,k x H2 (sm.trans (a7.same nx ndx b)) ⟨dx,.non,j_ rfl (jk sm nx) e,rfl⟩⟩⟩⟩
  ·rw [if_neg cS] at k ⊢;refine qd (λz=>absurd z Bool.false_ne_true) (λ_=>?_);exact ⟨_,rfl,yz k⟩
def ax(P:Program)(w:World)(K:W.Frag)(mg:Str->Option Value)(base:Heap)(k:Nat)(x:Str)(ps:List Str)(sp:Sp):Prop :=
 ∃ f fd,xb P w K mg base (CXF P w) k f fd ps sp/\zl K fd ps []/\PySem.W.keepIn K (.ref f)=true/\mg x=some (.ref f)
theorem jh{P:Program}{w:World}{K:W.Frag}{mg:Str->Option Value}{base:Heap}{k j:Nat}{x:Str}{ps:List Str}{sp:Sp}{N:List Str}{qual:Str}{scope:Scope}{f:Addr}{cd:Value}{A:Around}{outer:List Env}{s:Shared}{H:Hp}{E:XK}{e:PySem.Expr}{es:List PySem.Expr}{t:TA}{p pos:Pos}
  (G:ax P w K mg base k x ps sp) (hr:xw j (xt (CXF P w) P w K mg base N qual scope f cd A outer s H E).A) (hg:Gl (xt (CXF P w) P w K mg base N qual scope f cd A outer s H E) x) (ha:PA (xt (CXF P w) P w K mg base N qual scope f cd A outer s H E) (e::es) t)
  (hj:k<=j:=by decide) (hdb:(x == ("__debug__":Str))=false:=by decide)
  (he:starEach (e::es) (xt (CXF P w) P w K mg base N qual scope f cd A outer s H E).env=(false,eval e (xt (CXF P w) P w K mg base N qual scope f cd A outer s H E).env)::starEach es (xt (CXF P w) P w K mg base N qual scope f cd A outer s H E).env:=by rfl)
  (hpl:(backTo pos (starEach es (xt (CXF P w) P w K mg base N qual scope f cd A outer s H E).env)).any (·.1)=false:=by rfl) :
  PE (xt (CXF P w) P w K mg base N qual scope f cd A outer s H E) (.Call (.Name x p) (e::es) [] pos) (ym sp [] E t):=by
 obtain ⟨f',fd,F,b,kp,m⟩:=G;exact v7 F (hr.mono hj) hg m kp b .nil w8 ha hdb he hpl
def jr(K:W.Frag)(mg:Str->Option Value)(x:Str)(ps:List Str)(st:PySem.Stmt):Prop:=∃ f fd,Fun K x x st f fd/\zl K fd ps []/\PySem.W.keepIn K (.ref f)=true/\mg x=some (.ref f)
def jnb(CT:Addr)(H:Hp)(x:Addr)(n:Nat):Prop:=∃ dx,H x=some (.ins CT dx (jdw "END" (n:Int) (n:Int) .non))
def j29(CT:Addr)(H:Hp)(n:Nat)(x:Addr):Option Vanbka.Tok->Prop
 | some t=>vv CT H x t
 | none=>jnb CT H x n
def jwc(CT:Addr)(H:Hp)(l:Addr)(ts:List Vanbka.Tok)(n:Nat):Prop:=∃ xs:List Addr,H l=some (.lst (xs.map V.ref))/\Paired (j29 CT H n) xs (ts.map some ++ [none])
def jd0(CT:Addr)(H:Hp)(l:Addr)(ts:List Vanbka.Tok):Prop:=∃ xs:List Addr,H l=some (.lst (xs.map V.ref))/\Paired (vv CT H) xs ts
theorem jd0.same{CT:Addr}{H H':Hp}(s:jg H H'){l:Addr}{ts:List Vanbka.Tok}(h:jd0 CT H l ts):jd0 CT H' l ts:=by
 obtain ⟨xs,e,p⟩:=h;exact ⟨xs,s _ _ e,Paired.mapP p λ_ _ z=>z.same s⟩
theorem Paired.snoc{α β:Type}{F:α->β->Prop}:∀ {l₁:List α} {l₂:List β} {a:α} {b:β},Paired F l₁ l₂->F a b->Paired F (l₁ ++ [a]) (l₂ ++ [b])
 | _,_,_,_,.nil,h=>.cons h .nil
 | _,_,_,_,.cons r t,h=>.cons r (Paired.snoc t h)
theorem Paired.len{α β:Type}{F:α->β->Prop}:∀ {l₁:List α} {l₂:List β},Paired F l₁ l₂->l₁.length=l₂.length
 | _,_,.nil=>rfl
 | _,_,.cons _ t=>by rw [List.length_cons,List.length_cons,Paired.len t]
theorem Paired.get{α β:Type}{F:α->β->Prop}:∀ {l₁:List α} {l₂:List β} {i:Nat} {b:β},Paired F l₁ l₂->l₂[i]? = some b->∃ a,l₁[i]? = some a/\F a b
 | _,_,_,_,.nil,h=>by simp at h
 | _,_,0,_,.cons r t,h=>by cases h;exact ⟨_,rfl,r⟩
 | _,_,i + 1,_,.cons r t,h=>by
  obtain ⟨a,e,q⟩:=Paired.get (i:=i) t (by simpa using h);exact ⟨a,by simpa using e,q⟩
theorem Paired.mapR{α β γ:Type}{F:α->β->Prop}{G:α->γ->Prop}{g:β->γ}(h:∀ a b,F a b->G a (g b)):∀ {l₁:List α} {l₂:List β},Paired F l₁ l₂->Paired G l₁ (l₂.map g)
 | _,_,.nil=>.nil
 | _,_,.cons r t=>.cons (h _ _ r) (Paired.mapR h t)
theorem jbi{T H0 H1 H2 H3:Hp}(h1:∀ b,H1 b=none->H0 b=none)(h2:∀ b o,H1 b=none->H2 b=some o->H3 b=some o):jg (ay T H1 H2) (ay T H0 H3):=λb o e=>by
 rcases jak e with z | ⟨z1,z2,z3⟩
 ·exact jiv z
 ·exact j_ z1 (h1 b z2) (h2 b o z2 z3)
theorem jyv:jv ["text", "place", "byte"] ["text", "place"] (jj jhs):=fs_
theorem j2j(F:Fun K "cut_token" "cut_token" jhs f fd)(D:ax P w K mg base 1 "is_digit" ["byte"] jfy)(W:ax P w K mg base 2 "is_word_byte" ["byte"] jif)
  (G1:ax P w K mg base 3 "cut_number" ["text", "place"] (jal K CF CT λc=>digit c=true)) (G2:ax P w K mg base 3 "cut_word" ["text", "place"] (jal K CF CT λc=>letter c=true))
  (G3:ax P w K mg base 3 "cut_quoted" ["text", "place"] (jal K CF CT λc=>c=34)) (G4:ax P w K mg base 3 "cut_sign" ["text", "place"] (jal K CF CT λc=>letter c=false/\digit c=false/\c≠34)) (c1:CI mg "QUOTE" 34) :
  xb P w K mg base (CXF P w) 4 f fd ["text", "place"] (jal K CF CT λ_=>True):=by
 refine F.okF (k:=3) jyv (λvs H Q E h=>?_) (λac A outer s H vs Q E hr h=>?_)
 ·obtain ⟨a,t,r,q,c,rfl,_⟩:=h;rfl
 obtain ⟨a,t,r,q,c,rfl,hS,ak,hd,_,k⟩:=h;have nd:=jyv.nd
 refine ⟨_,jc (ju (i:=2) nd rfl (Or.inl rfl) (xp qv (pv 0) (pv 1) (λ_ _=>rfl)))
  (jc (qi (jez (jh D hr rfl (ja (pv 2) jb))) (je (jp (jh G1 hr rfl (ja (pv 0) (ja (pv 1) jb))))) j3)
  (jc (qi (jez (jh W hr rfl (ja (pv 2) jb))) (je (jp (jh G2 hr rfl (ja (pv 0) (ja (pv 1) jb))))) j3)
  (jc (qi (js xi (pv 2) (qz c1 rfl) (j9 _)) (je (jp (jh G3 hr rfl (ja (pv 0) (ja (pv 1) jb))))) j3)
  (je (jp (jh G4 hr rfl (ja (pv 0) (ja (pv 1) jb)))))))),?_⟩
 have hc:t[q]? = some c:=jjr hd;refine ⟨_,rfl,_,rfl,a,_,_,_,rfl,rfl,hS,w6 hc,?_⟩;refine ⟨_,rfl,_,rfl,_,rfl,?_⟩;rw [jcs];refine qd (λk1=>?_) (λk1=>?_)
 ·exact ⟨_,rfl,_,rfl,a,t,r,q,c,rfl,hS,ak,hd,k1,k⟩
 refine ⟨_,rfl,_,rfl,_,rfl,?_⟩;rw [jhd];have n1:=Bool.eq_false_iff.mpr k1
 refine qd (λk2=>?_) (λk2=>?_)
 ·have lc:letter c=true:=by
   unfold wordByte at k2;rw [n1,Bool.or_false] at k2;exact k2
  exact ⟨_,rfl,_,rfl,a,t,r,q,c,rfl,hS,ak,hd,lc,k⟩
 have lc:letter c=false:=by
  have z:=Bool.eq_false_iff.mpr k2;unfold wordByte at z;exact (Bool.or_eq_false_iff.mp z).1
 refine ⟨_,rfl,rfl,_,rfl,qd (λk3=>?_) (λk3=>?_)⟩
 ·have e:c=34:=(yt (n:=34) (by decide)).mp (by have:=ot_ k3;injection this);exact ⟨_,rfl,_,rfl,a,t,r,q,c,rfl,hS,ak,hd,e,k⟩
 ·have n3:c≠34:=λe=>k3 (dt_ (by rw [(yt (n:=34) (by decide)).mpr e];rfl));exact ⟨_,rfl,_,rfl,a,t,r,q,c,rfl,hS,ak,hd,⟨lc,n1,n3⟩,k⟩
def jja(K:W.Frag)(CF CT:Addr):Sp:=λvs H Q E=>∃ (a:Addr) (t:Bytes),vs=[.ref a]/\az K H a (vb t)/\t.length<=900000/\match Vanbka.tokens t with
 | .error p=>Err CF E 2 (p:Int)
 | .ok ts=>∀ l H',jg H H'->jd0 CT (ay noH H H') l ts->Q (.ref l) H'
theorem jt8:jv ["text", "tokens", "place", "token"] ["text"] (jj jgo):=fs_
theorem jz7(F:Fun K "cut_tokens" "cut_tokens" jgo f fd)(U:zz K mg CT tI aw)(G1:ax P w K mg base 1 "pass_over" ["text", "place"] (jnl K))(G2:ax P w K mg base 4 "cut_token" ["text", "place"] (jal K CF CT λ_=>True))(ml:mg "len"=none) :
  xb P w K mg base (CXF P w) 5 f fd ["text"] (jja K CF CT):=by
 refine F.okF (k:=4) jt8 (λvs H Q E h=>?_) (λac A outer s H vs Q E hr h=>?_)
 ·obtain ⟨a,t,rfl,_⟩:=h;rfl
 obtain ⟨a,t,rfl,hS,ak,k⟩:=h;have nd:=jt8.nd
 refine ⟨_,jc (ju (i:=1) nd rfl (Or.inl rfl) (j5 jb))
  (jc (ju (i:=2) nd rfl (Or.inl rfl) (jh G1 hr rfl (ja (pv 0) (ja qe jb))))
  (jc (z6 jad (js jgw (pv 2) (ye xu rfl ml PySem.boot_len (ja (pv 0) jb)) (j9 _))
   (jc (ju (i:=3) nd rfl (Or.inl rfl) (jh G2 hr rfl (ja (pv 0) (ja (pv 2) jb))))
   (jc (j6 (vd PySem.F.plainAttrs_list PySem.F.slot_list_append PySem.F.type_list_append zh (pv 1) (ja (pv 3) jb)))
   (je (ju (i:=2) nd rfl (Or.inl rfl) (jh G1 hr rfl (ja (pv 0) (ja (qc (pv 3) rfl) jb))))))))
  (je (jp (pv 1))))),?_⟩
 refine ⟨by decide,λl nl=>⟨_,rfl,a,t,0,rfl,(jo nl _).seq hS,Nat.zero_le _,?_⟩⟩;refine ⟨λm σ H'=>jg H H'/\∃ (j:Nat) (done:List Vanbka.Tok) (xs:List Addr) (v3:Option V),σ=[some (.ref a),some (.ref l),some (.int (j:Int)),v3]/\H' l=some (.lst (xs.map V.ref))/\Paired (vv CT (ay noH (upd H l (.lst [])) H')) xs done/\m=t.length - j/\j<=t.length/\xs.length<=j/\
   (t.drop j=[]\/∃ c r,t.drop j=c::r/\c≠10/\c≠32/\c≠35)/\Vanbka.tokens t=match Cell.z0 t j with
    | .error p=>.error p
    | .ok ts=>.ok (done ++ ts),⟨_,jo nl _,0 + Cell.skip false (t.drop 0),[],[],none,rfl,jd,.nil,rfl,?_,Nat.zero_le _,?_,?_⟩,?_⟩
 ·rw [Nat.zero_add];exact Cell.jfz false t
 ·rw [Nat.zero_add,List.drop_zero];exact Cell.jer t false
 ·rw [Cell.jtr,Cell.jj1 t 0];cases Cell.z0 t (0 + Cell.skip false (t.drop 0)) <;> rfl
 rintro m σ H' ⟨sm,j,done,xs,v3,rfl,hl,pr,rfl,hj,hxs,hcl,inv⟩;have hS':=sm.seq hS
 have lb:∀ {X:Hp} {b:Addr},X b=none->X l≠none->b≠l:=λh1 h2 z=>h2 (z▸h1);have hlo:∀ b,H' b=none->upd H l (.lst []) b=none:=λb z=>by
  have:b≠l:=λy=>by rw [y,hl] at z;cases z
  rw [jm this];exact jk sm z
 have small:(xs.map V.ref).length < sizeLine:=by
  rw [List.length_map];show xs.length < 2 ^ 24
  omega
 refine ⟨_,rfl,_,rfl,a,_,rfl,.inl hS',_,_,rfl,rfl,_,rfl,qd (λk1=>?_) (λk1=>?_)⟩
 ·have am:j < t.length:=by
   have:=ot_ k1;rw [xx] at this;omega
  obtain ⟨c,r,hd,n1,n2,n3⟩:∃ c r,t.drop j=c::r/\c≠10/\c≠32/\c≠35:=by
   rcases hcl with z | z
   ·have:=congrArg List.length z;rw [List.length_drop,List.length_nil] at this;omega
   ·exact z
  have step:=Cell.jri hd n1 n2 n3;refine ⟨λσ' H2=>∃ m',m' < t.length - j/\(jg H H2/\∃ (j:Nat) (done:List Vanbka.Tok) (xs:List Addr) (v3:Option V),σ'=[some (.ref a),some (.ref l),some (.int (j:Int)),v3]/\H2 l=some (.lst (xs.map V.ref))/\Paired (vv CT (ay noH (upd H l (.lst [])) H2)) xs done/\m'=t.length - j/\j<=t.length/\xs.length<=j/\
   (t.drop j=[]\/∃ c r,t.drop j=c::r/\c≠10/\c≠32/\c≠35)/\Vanbka.tokens t=match Cell.z0 t j with
    | .error p=>.error p
    | .ok ts=>.ok (done ++ ts)),λ_ _ z=>z,?_⟩
  refine ⟨_,rfl,_,rfl,a,t,r,j,c,rfl,hS',ak,hd,trivial,?_⟩;cases hx:lexAt (t.drop j) with
  | none =>
   rw [hx] at step;rw [step] at inv;rw [inv] at k;exact k
  | some y =>
   obtain ⟨lx,kk⟩:=y;rw [hx] at step;have kl:=Cell.jce hx
   rw [List.length_drop] at kl;intro x H2 sm2 tk;have hl2:H2 l=some (.lst (xs.map V.ref)):=sm2 _ _ hl
   obtain ⟨dx,v,ex,vx⟩:=tk;rcases jak ex with z | ⟨_,nx,ex2⟩
   ·cases z
   have xl:x≠l:=λy=>by rw [y,hl] at nx;cases nx
   refine ⟨_,rfl,.inl ⟨rfl,_,az.of hl2⟩,_,rfl,l,_,_,rfl,rfl,hl2,small,?_⟩;have sm3:jg H (upd H2 l (.lst (xs.map V.ref ++ [V.ref x]))):=zm (sm.trans sm2) nl
   refine ⟨_,rfl,_,rfl,x,CT,dx,_,_,rfl,by rw [jm xl];exact ex2,U.c.cl,U.c.no _ (.tail _ (.tail _ (.head _))),rfl,a,t,j + kk,rfl,sm3.seq hS,by omega,?_⟩;have q1:j + kk + Cell.skip false (t.drop (j + kk))<=t.length:=by
    have:=Cell.jfz false (t.drop (j + kk));rw [List.length_drop] at this;omega
   have g1:jg (ay noH (upd H l (.lst [])) H') (ay noH (upd H l (.lst [])) (upd H2 l (.lst (xs.map V.ref ++ [V.ref x])))):=jbi (λ_ z=>z) λb o z1 z2=>by
    have bl:b≠l:=λy=>by rw [y,jd] at z1;cases z1
    rw [jm bl];exact sm2 _ _ z2
   have g2:jg (ay noH H' H2) (ay noH (upd H l (.lst [])) (upd H2 l (.lst (xs.map V.ref ++ [V.ref x])))):=jbi hlo λb o z1 z2=>by
    have bl:b≠l:=λy=>by rw [y,hl] at z1;cases z1
    rw [jm bl];exact z2
   refine ⟨t.length - (j + kk + Cell.skip false (t.drop (j + kk))),by omega,sm3,j + kk + Cell.skip false (t.drop (j + kk)),done ++ [{ lex:=lx,place:=j,len:=kk }],xs ++ [x],_,rfl,by rw [jd,List.map_append];rfl,
    Paired.snoc (Paired.mapP pr λ_ _ z=>z.same g1) (vv.same g2 ⟨dx,v,ex,vx⟩),rfl,q1,by rw [List.length_append,List.length_singleton];omega,?_,?_⟩
   ·rw [<- List.drop_drop];exact Cell.jer _ false
   ·rw [inv,step,<- Cell.jj1];dsimp only;cases Cell.z0 t (j + kk) with
    | error z=>rfl
    | ok ts =>
     show Except.ok (done ++ _::ts)=Except.ok ((done ++ [_]) ++ ts);rw [List.append_assoc];rfl
 ·have ej:t.length<=j:=by
   have:¬ ((j:Int) < ((vb t).length:Int)):=λz=>k1 (dt_ z);rw [xx] at this;omega
  rw [Cell.jts ej] at inv;rw [inv] at k;refine ⟨_,rfl,k l _ sm ⟨xs,j_ rfl nl hl,?_⟩⟩;rw [List.append_nil];have g1:jg (ay noH (upd H l (.lst [])) H') (ay noH H H'):=jbi (λb z=>by
    have bl:b≠l:=λy=>by rw [y,jd] at z;cases z
    rw [jm bl] at z;exact z) λ_ _ _ z2=>z2
  exact Paired.mapP pr λ_ _ z=>vv.same g1 z
end
open Vanbka (isSign isWord next nameNext wordNext eat b halt_ tokensFrom placeAt tooDeepAt)
def jai:List Lex:=(doubleSigns.map Lex.sign ++ singleSigns.map λc=>Lex.sign [c]) ++ reserved.map Lex.word
def Wf:Lex->Prop
 | .sign x=>Lex.sign x∈jai
 | _=>True
theorem jvr:∀ l∈jai,∀ m∈jai,jy l=jy m->l=m:=by decide +kernel
theorem vf:∀ l∈jai,jy l≠"NAME"/\jy l≠"NUMBER"/\jy l≠"QUOTED"/\jy l≠"END":=by decide +kernel
theorem jab{l:Lex}(h:Wf l):l∈jai\/(∃ x,l = .word x/\reserved.contains x=false)\/(∃ n,l = .num n)\/∃ x,l = .quoted x:=by
 cases l with
 | sign x=>exact .inl h
 | num n=>exact .inr (.inr (.inl ⟨n,rfl⟩))
 | quoted x=>exact .inr (.inr (.inr ⟨x,rfl⟩))
 | word x =>
  cases e:reserved.contains x with
  | true =>
   refine .inl (List.mem_append_right _ (List.mem_map.mpr ⟨x,by simpa using e,rfl⟩))
  | false=>exact .inr (.inl ⟨x,rfl,e⟩)
theorem zr{x:Bytes}(h:reserved.contains x=false):jy (.word x) = "NAME":=by
 show (if reserved.contains x then _ else _)=_;rw [h];rfl
theorem jkq{l m:Lex}(h:Wf l)(hm:m∈jai):jy l=jy m↔l=m:=by
 constructor
 ·intro e;rcases jab h with z | ⟨x,rfl,z⟩ | ⟨n,rfl⟩ | ⟨x,rfl⟩
  ·exact jvr l z m hm e
  ·rw [zr z] at e;exact absurd e.symm (vf m hm).1
  ·exact absurd e.symm (vf m hm).2.1
  ·exact absurd e.symm (vf m hm).2.2.1
 ·intro e;rw [e]
theorem ji2{l:Lex}(h:Wf l):jy l = "NAME"↔∃ x,l = .word x/\reserved.contains x=false:=by
 constructor
 ·intro e;rcases jab h with z | z | ⟨n,rfl⟩ | ⟨x,rfl⟩
  ·exact absurd e (vf l z).1
  ·exact z
  ·exact absurd e (show ("NUMBER":Str)≠"NAME" by decide)
  ·exact absurd e (show ("QUOTED":Str)≠"NAME" by decide)
 ·rintro ⟨x,rfl,z⟩;exact zr z
theorem jsw{l:Lex}(h:Wf l):jy l = "NUMBER"↔∃ n,l = .num n:=by
 constructor
 ·intro e;rcases jab h with z | ⟨x,rfl,z⟩ | z | ⟨x,rfl⟩
  ·exact absurd e (vf l z).2.1
  ·rw [zr z] at e;exact absurd e (by decide)
  ·exact z
  ·exact absurd e (show ("QUOTED":Str)≠"NUMBER" by decide)
 ·rintro ⟨n,rfl⟩;rfl
theorem jsv{l:Lex}(h:Wf l):jy l = "QUOTED"↔∃ x,l = .quoted x:=by
 constructor
 ·intro e;rcases jab h with z | ⟨x,rfl,z⟩ | ⟨n,rfl⟩ | z
  ·exact absurd e (vf l z).2.2.1
  ·rw [zr z] at e;exact absurd e (by decide)
  ·exact absurd e (show ("NUMBER":Str)≠"QUOTED" by decide)
  ·exact z
 ·rintro ⟨n,rfl⟩;rfl
theorem jkp{l:Lex}(h:Wf l):jy l≠"END":=by
 rcases jab h with z | ⟨x,rfl,z⟩ | ⟨n,rfl⟩ | ⟨x,rfl⟩
 ·exact (vf l z).2.2.2
 ·rw [zr z];decide
 ·exact (show ("NUMBER":Str)≠"END" by decide)
 ·exact (show ("QUOTED":Str)≠"END" by decide)
def jq(rs:List Vanbka.Tok):Str:=match rs with
 | [] => "END"
 | t::_=>jy t.lex
abbrev bc(rs:List Vanbka.Tok):Prop:=∀ t∈rs,Wf t.lex
theorem zp{s:String}{z:Str}{rs:List Vanbka.Tok}(h:bc rs)(m:Lex.sign (b s)∈jai)(k:jy (.sign (b s))=z):next (isSign s) rs=decide (jq rs=z):=by
 cases rs with
 | nil=>exact (df_ (λe=>(vf _ m).2.2.2 (k.trans e.symm))).symm
 | cons t r =>
  show (t.lex == .sign (b s))=decide (jy t.lex=z);rw [<- k];have:=jkq (h t (.head _)) m
  rw [decide_eq_decide.mpr this];rfl
theorem zg{s:String}{z:Str}{rs:List Vanbka.Tok}(h:bc rs)(m:Lex.word (b s)∈jai)(k:jy (.word (b s))=z):next (isWord s) rs=decide (jq rs=z):=by
 cases rs with
 | nil=>exact (df_ (λe=>(vf _ m).2.2.2 (k.trans e.symm))).symm
 | cons t r =>
  show (t.lex == .word (b s))=decide (jy t.lex=z);rw [<- k];have:=jkq (h t (.head _)) m
  rw [decide_eq_decide.mpr this];rfl
theorem jx1{t:Bytes}{l:Lex}{k:Nat}(h:lexAt t=some (l,k)):Wf l:=by
 cases t with
 | nil=>cases h
 | cons c r =>
  unfold lexAt at h;dsimp only at h;split at h
  ·split at h
   ·cases h;trivial
   ·cases h
  split at h
  ·split at h
   ·cases h;trivial
   ·cases h
  split at h
  ·cases e:quotedFrom r with
   | none=>rw [e] at h;cases h
   | some x=>rw [e] at h;cases h;trivial
  split at h
  ·rename_i q;cases h;exact List.mem_append_left _ (List.mem_append_left _ (List.mem_map.mpr ⟨_,by simpa using q,rfl⟩))
  split at h
  ·rename_i q;cases h;exact List.mem_append_left _ (List.mem_append_right _ (List.mem_map.mpr ⟨_,by simpa using q,rfl⟩))
  ·cases h
theorem jhf:∀ (n p:Nat) (t:Bytes) (ts:List Vanbka.Tok),tokensFrom n p t = .ok ts->bc ts:=by
 intro n;induction n with
 | zero=>intro p t ts h;cases h;intro x hx;cases hx
 | succ n ih =>
  intro p t ts h;cases t with
  | nil=>cases h;intro x hx;cases hx
  | cons c r =>
   rw [tokensFrom] at h;split at h
   ·exact ih _ _ _ h
   split at h
   ·exact ih _ _ _ h
   ·split at h
    ·cases h
    ·rename_i l k hl;split at h
     ·cases h
     ·rename_i ts' hts;cases h;intro x hx;rcases List.mem_cons.mp hx with z | z
      ·subst z;exact jx1 hl
      ·exact ih _ _ _ hts x z
theorem jgd:∀ (n p:Nat) (t:Bytes) (ts:List Vanbka.Tok),Vanbka.tokensFrom n p t = .ok ts->ts.length<=t.length:=by
 intro n;induction n with
 | zero=>intro p t ts h;cases h;exact Nat.zero_le _
 | succ n ih =>
  intro p t ts h;cases t with
  | nil=>cases h;exact Nat.zero_le _
  | cons c r =>
   rw [Vanbka.tokensFrom] at h;split at h
   ·have:=ih _ _ _ h;rw [List.length_cons];omega
   split at h
   ·have:=ih _ _ _ h;rw [List.length_drop] at this;omega
   ·split at h
    ·cases h
    ·rename_i l k hl;split at h
     ·cases h
     ·rename_i ts' hts;cases h;have:=ih _ _ _ hts
      have kl:=Cell.jce hl;rw [List.length_drop] at this;rw [List.length_cons];omega
structure Tx where
 T:Hp
 lt:Addr
 all:List Vanbka.Tok
 len:Nat
 tr:∀ a C dx fs,T a=some (.ins C dx fs)->fs.lookup ("depth":Str)=none
structure RD(CT CR:Addr)(X:Tx)(rd:Addr)(H:Hp)(rs:List Vanbka.Tok):Prop where
 st:jg X.T H
 toks:jwc CT X.T X.lt X.all X.len
 wf:bc X.all
 no:X.T rd=none
 ob:∃ dx pre,H rd=some (.ins CR dx [("tokens",.ref X.lt),("at",.int ((List.length pre:Nat):Int))])/\X.all=pre ++ rs
def jym(T:Hp)(rs:List Vanbka.Tok)(v:V):Prop:=match rs with
 | []=>v = .non
 | t::_=>jeh T t.lex v
def jy7(n:Nat)(rs:List Vanbka.Tok):Nat:=match rs with
 | []=>n
 | t::_=>t.place
theorem jw7{all pre rs:List Vanbka.Tok}{n:Nat}(h:all=pre ++ rs):placeAt all n rs.length=jy7 n rs:=by
 subst h;unfold placeAt;rw [List.length_append,Nat.add_sub_cancel,List.drop_left];cases rs <;> rfl
section
variable{CT CR:Addr}{X:Tx}{rd:Addr}{H H':Hp}{rs:List Vanbka.Tok}
theorem RD.wfr(R:RD CT CR X rd H rs):bc rs:=by
 obtain ⟨dx,pre,_,e⟩:=R.ob;intro t ht;exact R.wf t (by rw [e];exact List.mem_append_right _ ht)
theorem RD.item(R:RD CT CR X rd H rs):∃ (dx:Addr) (xs:List Addr) (i:Nat) (x:Addr) (e:Int) (v:V) (dt:Addr),H rd=some (.ins CR dx [("tokens",.ref X.lt),("at",.int (i:Int))])/\H X.lt=some (.lst (List.map V.ref xs))/\atI (List.map V.ref xs) (i:Int)=some (.ref x)/\
  H x=some (.ins CT dt (jdw (jq rs) (placeAt X.all X.len rs.length:Nat) e v))/\jym X.T rs v/\X.all.length=i + rs.length:=by
 obtain ⟨dx,pre,h1,h2⟩:=R.ob;obtain ⟨xs,h3,h4⟩:=R.toks;have hp:placeAt X.all X.len rs.length=jy7 X.len rs:=jw7 h2
 have hg:(X.all.map some ++ [none])[pre.length]? = some rs.head? := by
  rw [h2];cases rs with
  | nil=>simp
  | cons t r=>simp
 obtain ⟨x,hx,ht⟩:=Paired.get h4 hg;have hxx:(List.map V.ref xs)[pre.length]? = some (.ref x):=by rw [List.getElem?_map,hx];rfl
 cases rs with
 | nil =>
  obtain ⟨dt,e⟩:=(show jnb CT X.T x X.len from ht)
  refine ⟨dx,xs,pre.length,x,(X.len:Int),.non,dt,h1,R.st _ _ h3,ja3 hxx,?_,rfl,by rw [h2,List.length_append]⟩;rw [hp];exact R.st _ _ e
 | cons t r =>
  obtain ⟨dt,v,e,q⟩:=(show vv CT X.T x t from ht)
  refine ⟨dx,xs,pre.length,x,((t.place + t.len:Nat):Int),v,dt,h1,R.st _ _ h3,ja3 hxx,?_,q,by rw [h2,List.length_append]⟩;rw [hp];exact R.st _ _ e
theorem RD.item2{t:Vanbka.Tok}{r:List Vanbka.Tok}(R:RD CT CR X rd H (t::r)):∃ (dx:Addr) (xs:List Addr) (i:Nat) (x:Addr) (p e:Int) (v:V) (dt:Addr),H rd=some (.ins CR dx [("tokens",.ref X.lt),("at",.int (i:Int))])/\H X.lt=some (.lst (List.map V.ref xs))/\atI (List.map V.ref xs) ((i:Int) + 1)=some (.ref x)/\
  H x=some (.ins CT dt (jdw (jq r) p e v)):=by
 obtain ⟨dx,pre,h1,h2⟩:=R.ob;obtain ⟨xs,h3,h4⟩:=R.toks;have hg:(X.all.map some ++ [none])[pre.length + 1]? = some r.head? := by
  rw [h2];cases r with
  | nil=>simp
  | cons t r=>simp
 obtain ⟨x,hx,ht⟩:=Paired.get h4 hg;have hxx:(List.map V.ref xs)[pre.length + 1]? = some (.ref x):=by rw [List.getElem?_map,hx];rfl
 cases r with
 | nil =>
  obtain ⟨dt,e⟩:=(show jnb CT X.T x X.len from ht)
  exact ⟨dx,xs,pre.length,x,_,_,_,dt,h1,R.st _ _ h3,ja3 hxx,R.st _ _ e⟩
 | cons t r =>
  obtain ⟨dt,v,e,q⟩:=(show vv CT X.T x t from ht)
  exact ⟨dx,xs,pre.length,x,_,_,_,dt,h1,R.st _ _ h3,ja3 hxx,R.st _ _ e⟩
theorem RD.item3{t:Vanbka.Tok}{pre:List Vanbka.Tok}(R:RD CT CR X rd H rs)(h:X.all=pre ++ t::rs):∃ (dx:Addr) (xs:List Addr) (i:Nat) (x:Addr) (k:Str) (p:Int) (v:V) (dt:Addr),H rd=some (.ins CR dx [("tokens",.ref X.lt),("at",.int (i:Int))])/\H X.lt=some (.lst (List.map V.ref xs))/\atI (List.map V.ref xs) ((i:Int) - 1)=some (.ref x)/\
  H x=some (.ins CT dt (jdw k p ((t.place + t.len:Nat):Int) v)):=by
 obtain ⟨dx,pre',h1,h2⟩:=R.ob;obtain ⟨xs,h3,h4⟩:=R.toks;have hl:pre'.length=pre.length + 1:=by
  have:=congrArg List.length (h2.symm.trans h);rw [List.length_append,List.length_append,List.length_cons] at this;omega
 have hg:(X.all.map some ++ [none])[pre.length]? = some (some t):=by
  rw [h];simp
 obtain ⟨x,hx,ht⟩:=Paired.get h4 hg;have hxx:(List.map V.ref xs)[pre.length]? = some (.ref x):=by rw [List.getElem?_map,hx];rfl
 obtain ⟨dt,v,e,q⟩:=(show vv CT X.T x t from ht)
 refine ⟨dx,xs,pre'.length,x,_,_,v,dt,h1,R.st _ _ h3,?_,R.st _ _ e⟩;have ei:((pre'.length:Nat):Int) - 1=((pre.length:Nat):Int):=by omega
 rw [ei];exact ja3 hxx
theorem RD.front{H1:Hp}{r:List Vanbka.Tok}(R:RD CT CR X rd H rs)(R1:RD CT CR X rd H1 r)(h:r.length < rs.length):∃ pre t,X.all=pre ++ t::r:=by
 obtain ⟨_,p,_,e⟩:=R.ob;obtain ⟨_,p1,_,e1⟩:=R1.ob;have hl:p1≠[]:=λz=>by
  have:=congrArg List.length (e.symm.trans e1);rw [z,List.length_append,List.length_append,List.length_nil] at this;omega
 refine ⟨p1.dropLast,p1.getLast hl,?_⟩;have:=List.dropLast_concat_getLast hl
 rw [e1]
 conv=>lhs;rw [<- this]
 rw [List.append_assoc];rfl
theorem RD.same(R:RD CT CR X rd H rs)(s:jg H H'):RD CT CR X rd H' rs :=
 ⟨R.st.trans s,R.toks,R.wf,R.no,by obtain ⟨dx,pre,h1,h2⟩:=R.ob;exact ⟨dx,pre,s _ _ h1,h2⟩⟩
theorem RD.on{t:Vanbka.Tok}{r:List Vanbka.Tok}{dx:Addr}{i:Nat}(R:RD CT CR X rd H (t::r))(e:H rd=some (.ins CR dx [("tokens",.ref X.lt),("at",.int (i:Int))])) :
  a7 rd H (upd H rd (.ins CR dx [("tokens",.ref X.lt),("at",.int ((i:Int) + 1))]))/\RD CT CR X rd (upd H rd (.ins CR dx [("tokens",.ref X.lt),("at",.int ((i:Int) + 1))])) r:=by
 obtain ⟨dx',pre,h1,h2⟩:=R.ob;rw [e] at h1;injection h1 with h1;injection h1 with h1 h3 h4;have:i=pre.length:=by
  simp only [List.cons.injEq,Prod.mk.injEq,V.int.injEq,true_and,and_true] at h4;omega
 subst this;refine ⟨λb o hb ne=>by rw [jm ne];exact hb,⟨λb o hb=>?_,R.toks,R.wf,R.no,dx,pre ++ [t],?_,by rw [h2];simp⟩⟩
 ·have:b≠rd:=λz=>by rw [z,R.no] at hb;cases hb
  rw [jm this];exact R.st _ _ hb
 ·rw [jd,List.length_append,List.length_singleton];rfl
end
section
variable{P:Program}{w:World}{K:W.Frag}{mg:Str->Option Value}{base:Heap}{f g g2 CF fI CT tI CR rI:Addr}{fd gd gd2 au aw rdI:FuncData}
def ja5(P:Program)(w:World)(K:W.Frag)(mg:Str->Option Value)(base:Heap)(C:Addr)(k:Nat)(m:Str)(ps:List Str)(sp:Sp):Prop :=
 ∃ f fd,xb P w K mg base (CXF P w) k f fd ps sp/\zl K fd ps []/\jlz K C m f
structure jas(K:W.Frag)(mg:Str->Option Value)(CR:Addr):Prop where
 c:zu K mg "Reader" CR ["tokens", "at"]
def jfw(CT CR:Addr):Sp:=λvs H Q _=>∃ X rd rs,vs=[.ref rd]/\RD CT CR X rd H rs/\Q (.str (jq rs)) H
def jgi(CT CR:Addr):Sp:=λvs H Q _=>∃ X rd t r,vs=[.ref rd]/\RD CT CR X rd H (t::r)/\Q (.str (jq r)) H
def jhk(CT CR:Addr):Sp:=λvs H Q _=>∃ X rd rs,vs=[.ref rd]/\RD CT CR X rd H rs/\Q (.int (placeAt X.all X.len rs.length:Nat)) H
def jj4(CT CR:Addr):Sp:=λvs H Q _=>∃ X rd rs t pre,vs=[.ref rd]/\RD CT CR X rd H rs/\X.all=pre ++ t::rs/\Q (.int ((t.place + t.len:Nat):Int)) H
def jhj(CT CR:Addr):Sp:=λvs H Q _=>∃ X rd t r,vs=[.ref rd]/\RD CT CR X rd H (t::r)/\∀ H',a7 rd H H'->RD CT CR X rd H' r->Q (.str (jy t.lex)) H'
def jat(CF CT CR:Addr):Sp:=λvs H Q E=>∃ X rd rs k,vs=[.ref rd,.str k]/\k≠"END"/\RD CT CR X rd H rs/\
 if jq rs=k then ∀ v H',a7 rd H H'->RD CT CR X rd H' (rs.drop 1)->jym X.T rs v->Q v H' else Err CF E 4 (placeAt X.all X.len rs.length:Nat)
theorem j1n:jv ["self"] ["self"] (jj jru):=fs_
theorem j0e(F:Fun K "look" "Reader.look" jru f fd)(U:zz K mg CT tI aw)(Rd:jas K mg CR):xb P w K mg base (CXF P w) 1 f fd ["self"] (jfw CT CR):=by
 refine F.okF (k:=0) j1n (λvs H Q E h=>?_) (λac A outer s H vs Q E hr h=>?_)
 ·obtain ⟨X,rd,rs,rfl,_⟩:=h;rfl
 obtain ⟨X,rd,rs,rfl,R,q⟩:=h;refine ⟨_,je (jp (qc (xp qv (qc (pv 0) rfl) (qc (pv 0) rfl) (λ_ _=>rfl)) rfl)),?_⟩;obtain ⟨dx,xs,i,x,e,v,dt,h1,h2,h3,h4,h5,h6⟩:=R.item;exact ⟨_,rfl,rd,CR,dx,_,_,rfl,h1,Rd.c.cl,Rd.c.no _ (.head _),rfl,_,rfl,rd,CR,dx,_,_,rfl,h1,Rd.c.cl,Rd.c.no _ (.tail _ (.head _)),rfl,_,_,_,_,rfl,rfl,az.of h2,h3,x,CT,dt,_,_,rfl,h4,U.c.cl,U.c.no _ (.head _),rfl,q⟩
theorem jwt:jv ["self"] ["self"] (jj jfh):=fs_
theorem ju2(F:Fun K "look_behind" "Reader.look_behind" jfh f fd)(U:zz K mg CT tI aw)(Rd:jas K mg CR):xb P w K mg base (CXF P w) 1 f fd ["self"] (jgi CT CR):=by
 refine F.okF (k:=0) jwt (λvs H Q E h=>?_) (λac A outer s H vs Q E hr h=>?_)
 ·obtain ⟨X,rd,t,r,rfl,_⟩:=h;rfl
 obtain ⟨X,rd,t,r,rfl,R,q⟩:=h;refine ⟨_,je (jp (qc (xp qv (qc (pv 0) rfl) (qa jbx (qc (pv 0) rfl) qe) (λ_ _=>rfl)) rfl)),?_⟩;obtain ⟨dx,xs,i,x,p,e,v,dt,h1,h2,h3,h4⟩:=R.item2;exact ⟨_,rfl,rd,CR,dx,_,_,rfl,h1,Rd.c.cl,Rd.c.no _ (.head _),rfl,_,rfl,rd,CR,dx,_,_,rfl,h1,Rd.c.cl,Rd.c.no _ (.tail _ (.head _)),rfl,_,_,rfl,rfl,_,_,_,_,rfl,rfl,az.of h2,h3,x,CT,dt,_,_,rfl,h4,U.c.cl,U.c.no _ (.head _),rfl,q⟩
theorem j1r:jv ["self"] ["self"] (jj jrw):=fs_
theorem j0i(F:Fun K "here" "Reader.here" jrw f fd)(U:zz K mg CT tI aw)(Rd:jas K mg CR):xb P w K mg base (CXF P w) 1 f fd ["self"] (jhk CT CR):=by
 refine F.okF (k:=0) j1r (λvs H Q E h=>?_) (λac A outer s H vs Q E hr h=>?_)
 ·obtain ⟨X,rd,rs,rfl,_⟩:=h;rfl
 obtain ⟨X,rd,rs,rfl,R,q⟩:=h;refine ⟨_,je (jp (qc (xp qv (qc (pv 0) rfl) (qc (pv 0) rfl) (λ_ _=>rfl)) rfl)),?_⟩;obtain ⟨dx,xs,i,x,e,v,dt,h1,h2,h3,h4,h5,h6⟩:=R.item;exact ⟨_,rfl,rd,CR,dx,_,_,rfl,h1,Rd.c.cl,Rd.c.no _ (.head _),rfl,_,rfl,rd,CR,dx,_,_,rfl,h1,Rd.c.cl,Rd.c.no _ (.tail _ (.head _)),rfl,_,_,_,_,rfl,rfl,az.of h2,h3,x,CT,dt,_,_,rfl,h4,U.c.cl,U.c.no _ (.tail _ (.head _)),rfl,q⟩
theorem j1p:jv ["self"] ["self"] (jj jfm):=fs_
theorem j0g(F:Fun K "behind_last" "Reader.behind_last" jfm f fd)(U:zz K mg CT tI aw)(Rd:jas K mg CR):xb P w K mg base (CXF P w) 1 f fd ["self"] (jj4 CT CR):=by
 refine F.okF (k:=0) j1p (λvs H Q E h=>?_) (λac A outer s H vs Q E hr h=>?_)
 ·obtain ⟨X,rd,rs,t,pre,rfl,_⟩:=h;rfl
 obtain ⟨X,rd,rs,t,pre,rfl,R,ea,q⟩:=h;refine ⟨_,je (jp (qc (xp qv (qc (pv 0) rfl) (qa jhy (qc (pv 0) rfl) qe) (λ_ _=>rfl)) rfl)),?_⟩;obtain ⟨dx,xs,i,x,k,p,v,dt,h1,h2,h3,h4⟩:=R.item3 ea;exact ⟨_,rfl,rd,CR,dx,_,_,rfl,h1,Rd.c.cl,Rd.c.no _ (.head _),rfl,_,rfl,rd,CR,dx,_,_,rfl,h1,Rd.c.cl,Rd.c.no _ (.tail _ (.head _)),rfl,_,_,rfl,rfl,_,_,_,_,rfl,rfl,az.of h2,h3,x,CT,dt,_,_,rfl,h4,U.c.cl,U.c.no _ (.tail _ (.tail _ (.head _))),rfl,q⟩
theorem qg{k j:Nat}{m:Str}{ps:List Str}{sp:Sp}{N:List Str}{qual:Str}{scope:Scope}{f C:Addr}{cd:Value}{A:Around}{outer:List Env}{s:Shared}{H:Hp}{E:XK}{o e:PySem.Expr}{es:List PySem.Expr}{ta:TE}{t:TA}{apos pos:Pos}{pl:Sem Bool}
  (G:ja5 P w K mg base C k m ps sp) (c:Cls K C) (hr:xw j (xt (CXF P w) P w K mg base N qual scope f cd A outer s H E).A) (ho:PE (xt (CXF P w) P w K mg base N qual scope f cd A outer s H E) o ta) (ha:PA (xt (CXF P w) P w K mg base N qual scope f cd A outer s H E) (e::es) t)
  (hj:k<=j:=by decide)
  (he:starEach (e::es) (xt (CXF P w) P w K mg base N qual scope f cd A outer s H E).env=(false,eval e (xt (CXF P w) P w K mg base N qual scope f cd A outer s H E).env)::starEach es (xt (CXF P w) P w K mg base N qual scope f cd A outer s H E).env:=by rfl)
  (hpl:(backTo pos (starEach es (xt (CXF P w) P w K mg base N qual scope f cd A outer s H E).env)).any (·.1)=false:=by rfl)
  (ht:eval (.Call (.Attribute o m apos) (e::es) [] pos) (xt (CXF P w) P w K mg base N qual scope f cd A outer s H E).env=(do
   let ov <- eval o (xt (CXF P w) P w K mg base N qual scope f cd A outer s H E).env
   standAt apos.atName
   let (fn,first) <- holding [ov] (getMethod ov m pl)
   callWith pos fn first (backTo pos (starEach (e::es) (xt (CXF P w) P w K mg base N qual scope f cd A outer s H E).env)) (backToKw pos (keywordEach [] (xt (CXF P w) P w K mg base N qual scope f cd A outer s H E).env))):=by rfl) :
  PE (xt (CXF P w) P w K mg base N qual scope f cd A outer s H E) (.Call (.Attribute o m apos) (e::es) [] pos) (vj C m sp [] E ta t):=by
 obtain ⟨f',fd,F,b,M⟩:=G;exact jzy ho c M F (hr.mono hj) b .nil w8 ha he hpl ht
theorem xf{k j:Nat}{m:Str}{ps:List Str}{sp:Sp}{N:List Str}{qual:Str}{scope:Scope}{f C:Addr}{cd:Value}{A:Around}{outer:List Env}{s:Shared}{H:Hp}{E:XK}{o:PySem.Expr}{ta:TE}{apos pos:Pos}{pl:Sem Bool}
  (G:ja5 P w K mg base C k m ps sp) (c:Cls K C) (hr:xw j (xt (CXF P w) P w K mg base N qual scope f cd A outer s H E).A) (ho:PE (xt (CXF P w) P w K mg base N qual scope f cd A outer s H E) o ta)
  (hj:k<=j:=by decide)
  (ht:eval (.Call (.Attribute o m apos) [] [] pos) (xt (CXF P w) P w K mg base N qual scope f cd A outer s H E).env=(do
   let ov <- eval o (xt (CXF P w) P w K mg base N qual scope f cd A outer s H E).env
   standAt apos.atName
   let (fn,first) <- holding [ov] (getMethod ov m pl)
   callWith pos fn first (backTo pos (starEach [] (xt (CXF P w) P w K mg base N qual scope f cd A outer s H E).env)) (backToKw pos (keywordEach [] (xt (CXF P w) P w K mg base N qual scope f cd A outer s H E).env))):=by rfl) :
  PE (xt (CXF P w) P w K mg base N qual scope f cd A outer s H E) (.Call (.Attribute o m apos) [] [] pos) (vj C m sp [] E ta xh):=by
 obtain ⟨f',fd,F,b,M⟩:=G;exact jw8 ho c M F (hr.mono hj) b .nil w8 ht
theorem jax{m:Str}{sp:Sp}{E:XK}{i:Nat}{σ:St}{H:Hp}{Q:VK}{X:Tx}{rd:Addr}{rs:List Vanbka.Tok}{t:TA}(hi:σ[i]? = some (some (.ref rd)))(R:RD CT CR X rd H rs)(h:t σ H λvs H2=>sp (.ref rd::(vs ++ [])) H2 Q E)
  (hm:(m == "tokens")=false:=by decide) (hm2:(m == "at")=false:=by decide):vj CR m sp [] E (qy i) t σ H Q:=by
 obtain ⟨dx,pre,h1,_⟩:=R.ob;refine ⟨_,hi,rd,dx,_,rfl,h1,?_,h⟩;rw [List.lookup_cons,hm,List.lookup_cons,hm2];rfl
theorem zj{E:XK}{i:Nat}{σ:St}{H:Hp}{Q:VK}{X:Tx}{rd:Addr}{rs:List Vanbka.Tok}(R:RD CT CR X rd H rs)(h:Q (.str (jq rs)) H)(hi:σ[i]? = some (some (.ref rd)):=by rfl):vj CR "look" (jfw CT CR) [] E (qy i) xh σ H Q :=
 jax hi R ⟨X,rd,rs,rfl,R,h⟩
theorem jkm{E:XK}{i:Nat}{σ:St}{H:Hp}{Q:VK}{X:Tx}{rd:Addr}{rs:List Vanbka.Tok}(R:RD CT CR X rd H rs)(h:Q (.int (placeAt X.all X.len rs.length:Nat)) H)(hi:σ[i]? = some (some (.ref rd)):=by rfl):vj CR "here" (jhk CT CR) [] E (qy i) xh σ H Q :=
 jax hi R ⟨X,rd,rs,rfl,R,h⟩
theorem j2s{E:XK}{i:Nat}{σ:St}{H:Hp}{Q:VK}{X:Tx}{rd:Addr}{rs pre:List Vanbka.Tok}{t:Vanbka.Tok}(R:RD CT CR X rd H rs)(ea:X.all=pre ++ t::rs)(h:Q (.int ((t.place + t.len:Nat):Int)) H)(hi:σ[i]? = some (some (.ref rd)):=by rfl):vj CR "behind_last" (jj4 CT CR) [] E (qy i) xh σ H Q :=
 jax hi R ⟨X,rd,rs,t,pre,rfl,R,ea,h⟩
theorem jue:jv ["self", "kind"] ["self"] (jj jlh):=fs_
theorem j0d(F:Fun K "move_on" "Reader.move_on" jlh f fd)(Rd:jas K mg CR)(L:ja5 P w K mg base CR 1 "look" ["self"] (jfw CT CR)):xb P w K mg base (CXF P w) 2 f fd ["self"] (jhj CT CR):=by
 refine F.okF (k:=1) jue (λvs H Q E h=>?_) (λac A outer s H vs Q E hr h=>?_)
 ·obtain ⟨X,rd,t,r,rfl,_⟩:=h;rfl
 obtain ⟨X,rd,t,r,rfl,R,q⟩:=h;have nd:=jue.nd
 refine ⟨_,jc (ju (i:=1) nd rfl (Or.inl rfl) (xf L Rd.c.cl hr (pv 0))) (jc (jmf (pv 0) qe jvl) (je (jp (pv 1)))),?_⟩;refine zj R ?_;obtain ⟨dx,xs,i,x,e,v,dt,h1,h2,h3,h4,h5,h6⟩:=R.item;obtain ⟨b1,b2⟩:=R.on h1;exact ⟨_,rfl,rd,CR,dx,_,_,rfl,h1,Rd.c.cl,Rd.c.no _ (.tail _ (.head _)),rfl,_,_,rfl,rfl,dx,_,h1,(by show 2 < 1000;decide),_,rfl,q _ b1 b2⟩
theorem jt9:jv ["self", "kind", "value"] ["self", "kind"] (jj jrt):=fs_
theorem jz8(F:Fun K "take" "Reader.take" jrt f fd)(T:v8 K mg CF fI au)(U:zz K mg CT tI aw)(Rd:jas K mg CR)(L:ja5 P w K mg base CR 1 "look" ["self"] (jfw CT CR))(Hr:ja5 P w K mg base CR 1 "here" ["self"] (jhk CT CR))(c4:CI mg "NO_PROGRAM" 4) :
  xb P w K mg base (CXF P w) 3 f fd ["self", "kind"] (jat CF CT CR):=by
 refine F.okF (k:=2) jt9 (λvs H Q E h=>?_) (λac A outer s H vs Q E hr h=>?_)
 ·obtain ⟨X,rd,rs,k,rfl,_⟩:=h;rfl
 obtain ⟨X,rd,rs,k,rfl,ke,R,q⟩:=h;have nd:=jt9.nd
 refine ⟨_,jc (qi (js jea (xf L Rd.c.cl hr (pv 0)) (pv 1) (j9 _)) (je (we T hr rfl (ja (qz c4 rfl) (ja (xf Hr Rd.c.cl hr (pv 0)) jb)))) j3)
  (jc (ju (i:=2) nd rfl (Or.inl rfl) (qc (xp qv (qc (pv 0) rfl) (qc (pv 0) rfl) (λ_ _=>rfl)) rfl))
  (jc (jmf (pv 0) qe jvl) (je (jp (pv 2))))),?_⟩
 refine zj R ⟨_,rfl,rfl,_,rfl,qd (λk1=>?_) (λk1=>?_)⟩
 ·have ne:¬ jq rs=k:=λz=>by
   rw [dt_ (show V.str (jq rs)=V.str k by rw [z])] at k1;cases k1
  rw [if_neg ne] at q;exact jkm R (yz q)
 ·have eq:jq rs=k:=by
   have:decide (V.str (jq rs)=V.str k)=true:=by simpa using k1
   have:=ot_ this;injection this
  rw [if_pos eq] at q;cases rs with
  | nil=>exact absurd eq.symm ke
  | cons t r =>
   obtain ⟨dx,xs,i,x,e,v,dt,h1,h2,h3,h4,h5,h6⟩:=R.item;obtain ⟨b1,b2⟩:=R.on h1;exact ⟨_,rfl,rd,CR,dx,_,_,rfl,h1,Rd.c.cl,Rd.c.no _ (.head _),rfl,_,rfl,rd,CR,dx,_,_,rfl,h1,Rd.c.cl,Rd.c.no _ (.tail _ (.head _)),rfl,_,_,_,_,rfl,rfl,az.of h2,h3,x,CT,dt,_,_,rfl,h4,U.c.cl,U.c.no _ (.tail _ (.tail _ (.tail _ (.head _)))),rfl,
    _,rfl,rd,CR,dx,_,_,rfl,h1,Rd.c.cl,Rd.c.no _ (.tail _ (.head _)),rfl,_,_,rfl,rfl,dx,_,h1,(by show 2 < 1000;decide),_,rfl,q _ _ b1 b2 h5⟩
end
end Prg
end
section
set_option maxRecDepth 100000
set_option maxHeartbeats 1000000
namespace L2
open PySem PySem.Spec PyProof.Rows
section
variable{P:Program}{w:World}{A:Around}{E:Value->Shared->Prop}{R:Result->Shared->Prop}{I S:Addr}{fp wr:List Addr}{n:Nat}{F:Nat->Value->Prop}{St:Nat->Heap->Prop}
def j3c(F:Nat->Value->Prop)(val:Nat->Int)(j:Nat)(arr:Array Value):Prop:=(arr = #[]/\j=0)\/∃ i v,arr = #[v,v]/\i < j/\F i v/\∀ k,k < j->val k<=val i
theorem jve(a d:Value):argsOk "max" ⟨[a],[(Str.ofString "default",d)]⟩:=by unfold argsOk;kernel_rfl
theorem jvc(W:Walks P w A.in1 I fp wr n F St)(val:Nat->Int)(hv:∀ i v,F i v->∃ t,v = .int (val i) t)(hS:S∉fp)(d:Value) :
  ∀ (r j:Nat) (s:Shared) (arr:Array Value) (c:Nat),j + r=n->St j s.heap->s.heap.get? S=some { cls:=.type "list",dict:=none,data:=.seq arr c,slots := #[] }->j3c F val j arr->
   (∀ v h' tk,((n=0/\v=d)\/∃ i,i < n/\F i v/\∀ k,k < n->val k<=val i)->(∀ b o,b∉wr->b≠S->s.heap.get? b=some o->h'.get? b=some o)->R (.ok (.ret v)) { s with heap:=h',toks:=tk })->
   codeAny (model P w) A (.builtin "max.loop" ⟨[.ref I,.none,.ref S],[(Str.ofString "default",d)]⟩) R s:=by
 have Sw:S∉wr:=λz=>hS (W.sub _ z);have nm:(toString "max" ++ toString ".loop":String) = "max.loop":=by decide
 intro r;induction r with
 | zero =>
  intro j s arr c e st hs best fin;have ej:j=n:=e
  subst ej;refine codeAny_builtin PySem.F.entry_max_loop ?_;rw [Around.under_plainId PySem.F.plain_max_loop _];show wpAny _ _ (seqItems? (.ref S) >>= _) _ _ s
  refine wpAny_bind (wpAny_seqItems hs rfl ?_);rcases best with ⟨rfl,z⟩ | ⟨i,v,rfl,hi,hF,hm⟩
  ·show wpAny _ _ (tryCatch (pyNext (.ref I)) _ >>= _) _ _ s;refine wpAny_bind (wpAny_tryCatch (W.done s _ _ st λh' tk keep=>?_));show wpAny _ _ (rule _ >>= _) _ _ _
   refine wpAny_bind (wpAny_rule (wpAny_pure ?_));exact fin d h' tk (.inl ⟨z,rfl⟩) λb o nb _ q=>keep b o nb q
  ·show wpAny _ _ (tryCatch (pyNext (.ref I)) _ >>= _) _ _ s;refine wpAny_bind (wpAny_tryCatch (W.done s _ _ st λh' tk keep=>?_));have hs':=keep S _ Sw hs
   show wpAny _ _ (updateSeq S (λ_ => #[]) >>= _) _ _ _;refine wpAny_bind ?_;refine wpAny_updateSeq hs' rfl ?_;refine wpAny_bind (wpAny_letGo (wpAny_pure ?_));exact fin v _ tk (.inr ⟨i,hi,hF,hm⟩) λb o nb nS q=>(Heap.get?_update_other _ _ (Ne.symm nS)).trans (keep b o nb q)
 | succ r ih =>
  intro j s arr c e st hs best fin;have hj:j < n:=by omega
  refine codeAny_builtin PySem.F.entry_max_loop ?_;rw [Around.under_plainId PySem.F.plain_max_loop _];show wpAny _ _ (seqItems? (.ref S) >>= _) _ _ s
  refine wpAny_bind (wpAny_seqItems hs rfl ?_);rcases best with ⟨rfl,z⟩ | ⟨i,u,rfl,hi,hF,hm⟩
  ·show wpAny _ _ (tryCatch (pyNext (.ref I)) _ >>= _) _ _ s;refine wpAny_bind (wpAny_tryCatch (W.item j s _ _ hj st λv h' tk hP st' keep=>?_));have hs':=keep S _ Sw hs
   show wpAny _ _ (updateSeq S (λ_ => #[v,v]) >>= _) _ _ _;refine wpAny_bind ?_;refine wpAny_updateSeq hs' rfl ?_;rw [nm];refine wpAny_pure ⟨plainId_quiet PySem.F.plain_max_loop _,ih (j + 1) _ #[v,v] _ (by omega) (W.frame _ _ _ st' λb hb o q=>?_) (Heap.get?_update_self _ hs' rfl) (.inr ⟨j,v,rfl,Nat.lt_succ_self _,hP,λk hk=>?_⟩) λv' h2 tk2 hb keep2=>?_⟩
   ·exact (Heap.get?_update_other _ _ (λy:S=b=>hS (y▸hb))).trans q
   ·have:k=j:=by omega
    rw [this];exact Int.le_refl _
   ·exact fin v' h2 tk2 hb λb o nb nS q=>keep2 b o nb nS ((Heap.get?_update_other _ _ (Ne.symm nS)).trans (keep b o nb q))
  ·show wpAny _ _ (tryCatch (pyNext (.ref I)) _ >>= _) _ _ s;refine wpAny_bind (wpAny_tryCatch (W.item j s _ _ hj st λv h' tk hP st' keep=>?_));have hs':=keep S _ Sw hs
   show wpAny _ _ (tryCatch (holding [v,v] (richCompare .Gt v u >>= _)) _ >>= _) _ _ _;refine wpAny_bind (wpAny_tryCatch (wpAny_holding (wpAny_bind (CmpOf.ints_gt (prog:=P) (w:=w) (A:=A.in1) val hv j i v u _ _ _ hP hF ?_))));refine wpAny_bind (wpAny_holding (wpAny_truthy_bool ?_));refine wpAny_bind (wpAny_letGo (wpAny_pure ?_));by_cases gt:val j > val i
   ·rw [if_pos (dt_ gt)];refine wpAny_bind ?_;refine wpAny_updateSeq hs' rfl ?_;refine wpAny_bind (wpAny_letGo ?_);rw [nm];refine wpAny_pure ⟨plainId_quiet PySem.F.plain_max_loop _,ih (j + 1) _ #[v,v] _ (by omega) (W.frame _ _ _ st' λb hb o q=>?_) (Heap.get?_update_self _ hs' rfl) (.inr ⟨j,v,rfl,Nat.lt_succ_self _,hP,λk hk=>?_⟩) λv' h2 tk2 hb keep2=>?_⟩
    ·exact (Heap.get?_update_other _ _ (λy:S=b=>hS (y▸hb))).trans q
    ·rcases Nat.lt_or_ge k j with y | y
     ·have:=hm k y;omega
     ·have:k=j:=by omega
      rw [this];exact Int.le_refl _
    ·exact fin v' h2 tk2 hb λb o nb nS q=>keep2 b o nb nS ((Heap.get?_update_other _ _ (Ne.symm nS)).trans (keep b o nb q))
   ·rw [if_neg (λz=>gt (ot_ z))];refine wpAny_bind (wpAny_letGo ?_);rw [nm];refine wpAny_pure ⟨plainId_quiet PySem.F.plain_max_loop _,ih (j + 1) _ #[u,u] c (by omega) st' hs' (.inr ⟨i,u,rfl,by omega,hF,λk hk=>?_⟩) λv' h2 tk2 hb keep2=>?_⟩
    ·rcases Nat.lt_or_ge k j with y | y
     ·exact hm k y
     ·have:k=j:=by omega
      rw [this];omega
    ·exact fin v' h2 tk2 hb λb o nb nS q=>keep2 b o nb nS (keep b o nb q)
end
section
variable{P:Program}{w:World}{A:Around}{E:Value->Shared->Prop}{s:Shared}{l:Addr}{xs:Array (Int×PySem.Tok)}
theorem jvd{Q:Value->Shared->Prop}(d:Value)(hh:A.handled=none)(hl:s.heap.IsList l (intItems xs))
  (h:∀ v h' tk,((xs.size=0/\v=d)\/∃ i,i < xs.size/\(intItems xs)[i]? = some v/\∀ k,k < xs.size->numAt xs k<=numAt xs i)->(∀ b o,s.heap.get? b=some o->h'.get? b=some o)->Q v { s with heap:=h',toks:=tk }) :
  wpAny (model P w) A (call (.builtin "max") [.ref l] [(Str.ofString "default",d)]) Q E s:=by
 have nm:(toString "max" ++ toString ".loop":String) = "max.loop":=by decide
 refine kmk_tree PySem.F.kind_max PySem.F.plain_max PySem.F.entry_max (jve _ _) ?_;show wpAny _ _ (Builtin.Builtins.bindParams "max" ["key", "default"] 0 ⟨[],[(Str.ofString "default",d)]⟩ >>= _) _ _ s
 refine wpAny_bind (wpAny_of_eq (show Builtin.Builtins.bindParams "max" ["key", "default"] 0 ⟨[],[(Str.ofString "default",d)]⟩=pure [none,some d] from rfl) ?_);refine wpAny_bind (wpAny_pure ?_);refine wpAny_bind (iter_intList hl λs2 e st hfp hlI=>?_);refine wpAny_bind (wpAny_newObj_type ?_);have hS:s2.heap.objs.size∉[s.heap.objs.size,l]:=λhm=>Nat.lt_irrefl _ (hfp _ hm)
 rw [nm];have sz:(intItems xs).size=xs.size:=by simp [intItems]
 refine wpAny_pure ⟨plainId_quiet PySem.F.plain_max_loop _,jvc (Walks.list (A:=A.in1) hh _ l hlI (intItems xs)) (numAt xs) (λ_ _=>intItems_at) hS d (intItems xs).size 0 _ #[] 0 (Nat.zero_add _)
  ((Walks.list (prog:=P) (w:=w) (A:=A.in1) hh _ l hlI (intItems xs)).frame 0 _ _ st λb _ o q=>Heap.get?_push_of_some _ q) (Heap.get?_push_size _ rfl) (.inl ⟨rfl,rfl⟩) λv h' tk hb keep=>?_⟩
 rw [sz] at hb;subst e;refine h v h' tk hb λb o q=>?_;have lt:b < s.heap.objs.size:=Heap.lt_size q
 refine keep b o (λz=>?_) (λz=>?_) (Heap.get?_push_of_some _ (Heap.get?_push_of_some _ q))
 ·have:b=s.heap.objs.size:=by simpa using z
  exact absurd lt (by rw [this];exact Nat.lt_irrefl _)
 ·rw [z] at lt;rw [Heap.size_push] at lt;exact absurd lt (Nat.not_lt.mpr (Nat.le_succ _))
end
section
variable{X:Cx}
def jyz(K:W.Frag)(d:Int):V->Hp->VK->Prop:=λx H Q=>∃ (a:Addr) (ns:List Int),x=V.ref a/\az K H a (ns.map V.int)/\(ns=[]->Q (.int d) H)/\∀ m,m∈ns->(∀ y,y∈ns->y<=m)->Q (.int m) H
def j3h(K:W.Frag)(d:Int)(te:TE):TE:=λσ H Q=>te σ H λx H1=>∃ y,[x]=[y]/\jyz K d y H1 Q
theorem jzz{e:Expr}{te:TE}{d:Int}{j:Nat}{p pos kp kpos:Pos}(hc:X.calm=true)(hg:Gl X "max")(hm:X.mg "max"=none)(he:PE X e te)
  (h1:starEach [e] X.env=(false,eval e X.env)::starEach [] X.env:=by rfl) (h2:backTo pos (starEach [e] X.env)=(false,eval e X.env)::backTo pos (starEach [] X.env):=by rfl) (h3:(backTo pos (starEach [e] X.env)).any (·.1)=false:=by rfl):PE X (.Call (.Name "max" p) [e] [⟨some "default",.Constant (.int d) j kp,kpos⟩] pos) (j3h X.K d te):=by
 intro pins s σ H Q I h;refine wpAny_Call_Name_kw (jh2 I hg hm (by decide +kernel:bootBuiltins "max"=some (.builtin "max")) ?_ (by decide) (by decide));have ha:PA X [e] (qk te xh):=ja he jb h1
 refine callWith_kw (thn (ha pos pins s σ H (λvs H1=>∃ x,vs=[x]/\jyz X.K d x H1 Q) I h) λus s1 ⟨vs,H1,I1,r1,q1⟩=>kws_cons (wpAny_Constant_int (kws_nil ?_))) h2 h3;obtain ⟨x,rfl,a,ns,rfl,hs,q0,qm⟩:=q1;rw [qw.ref1 r1];obtain ⟨ad,rv,hl,_⟩:=I1.list hs;obtain ⟨zs,ez⟩:=rv.ints.allInts.items;have hn:numsOf (intItems zs).toList=ns:=by rw [<- ez];exact rv.ints.numsOf
 rw [nums_intItems] at hn;have hl2:=hl.isList
 rw [ez] at hl2;refine jvd (.int d s1.toks) (I1.ok.hd hc) hl2 λv h' tk hb keep=>?_;have I2:=I1.kept (t':=tk) keep
 rcases hb with ⟨z,rfl⟩ | ⟨i,hi,hv,hm⟩
 ·refine ⟨.int d,H1,I2,⟨_,rfl⟩,q0 ?_⟩;rw [<- hn,List.map_eq_nil_iff,<- List.length_eq_zero_iff,Array.length_toList];exact z
 ·obtain ⟨t,rfl⟩:=intItems_at hv;refine ⟨.int _,H1,I2,⟨_,rfl⟩,qm _ ?_ λy hy=>?_⟩
  ·rw [<- hn,numAt_eq];exact PySem.getD_mem (by rw [List.length_map,Array.length_toList];exact hi)
  ·rw [<- hn] at hy;obtain ⟨k,hk,rfl⟩:=mem_getD hy;rw [List.length_map,Array.length_toList] at hk;rw [<- numAt_eq];exact hm k hk
end
end L2
end
section
set_option maxRecDepth 100000
set_option maxHeartbeats 4000000
namespace Prg
open PySem L2
open Vanbka (Bytes)
inductive x8 where
 | bytes (x:Bytes)
 | int (i:Int)
inductive jw where
 | mk (kind:Str) (leaves:List x8) (parts:List jw) (blocks:List (List jw))
mutual
def jw.depth:jw->Nat
 | .mk _ _ ps bs=>1 + max (qj ps) (xa bs)
def qj:List jw->Nat
 | []=>0
 | x::l=>max x.depth (qj l)
def xa:List (List jw)->Nat
 | []=>0
 | x::l=>max (qj x) (xa l)
end
def qo(H:Hp):x8->V->Prop
 | .bytes x,v=>∃ a,v = .ref a/\H a=some (.lst (vb x))
 | .int i,v=>v = .int i
theorem qo.same{H H':Hp}(s:jg H H'){l:x8}{v:V}(h:qo H l v):qo H' l v:=by
 cases l with
 | bytes x=>obtain ⟨a,e,q⟩:=h;exact ⟨a,e,s _ _ q⟩
 | int i=>exact h
structure TX where
 d:Addr
 pl:V
 en:V
instance:Coe TX Addr:=⟨TX.d⟩
abbrev je4(k:Str)(a1 a2 a3:Addr)(dx:TX)(d:Nat):List (Str×V):=[("kind",.str k),("leaves",.ref a1),("parts",.ref a2),("blocks",.ref a3),("place",dx.pl),("end",dx.en),("depth",.int (d:Int))]
mutual
def jz(CN:Addr)(H:Hp):jw->V->Prop
 | .mk k ls ps bs,v=>∃ (x:Addr) (dx:TX) (a1 a2 a3:Addr) (ah af ag:List V),v = .ref x/\H x=some (.ins CN dx.d (je4 k a1 a2 a3 dx (1 + max (qj ps) (xa bs))))/\H a1=some (.lst ah)/\H a2=some (.lst af)/\H a3=some (.lst ag)/\
   (ah.length<=1000/\af.length<=1000/\ag.length<=1000)/\Paired (qo H) ls ah/\ji CN H ps af/\qr CN H bs ag
def ji(CN:Addr)(H:Hp):List jw->List V->Prop
 | [],vs=>vs=[]
 | x::l,vs=>∃ v r,vs=v::r/\jz CN H x v/\ji CN H l r
def qr(CN:Addr)(H:Hp):List (List jw)->List V->Prop
 | [],vs=>vs=[]
 | x::l,vs=>∃ a ws r,vs = .ref a::r/\H a=some (.lst ws)/\ws.length<=1000/\ji CN H x ws/\qr CN H l r
end
mutual
theorem jz.same{CN:Addr}{H H':Hp}(s:jg H H'):∀ (x:jw) (v:V),jz CN H x v->jz CN H' x v
 | .mk k ls ps bs,v,h=>by
  obtain ⟨x,dx,a1,a2,a3,ah,af,ag,e,h1,h2,h3,h4,h0,h5,h6,h7⟩:=h;exact ⟨x,dx,a1,a2,a3,ah,af,ag,e,s _ _ h1,s _ _ h2,s _ _ h3,s _ _ h4,h0,Paired.mapP h5 λ_ _ z=>z.same s,ji.same s ps af h6,qr.same s bs ag h7⟩
theorem ji.same{CN:Addr}{H H':Hp}(s:jg H H'):∀ (l:List jw) (vs:List V),ji CN H l vs->ji CN H' l vs
 | [],vs,h=>h
 | x::l,vs,h=>by
  obtain ⟨v,r,e,h1,h2⟩:=h;exact ⟨v,r,e,jz.same s x v h1,ji.same s l r h2⟩
theorem qr.same{CN:Addr}{H H':Hp}(s:jg H H'):∀ (l:List (List jw)) (vs:List V),qr CN H l vs->qr CN H' l vs
 | [],vs,h=>h
 | x::l,vs,h=>by
  obtain ⟨a,ws,r,e,h1,h0,h2,h3⟩:=h;exact ⟨a,ws,r,e,s _ _ h1,h0,ji.same s x ws h2,qr.same s l r h3⟩
end
theorem ji.len{CN:Addr}{H:Hp}:∀ (l:List jw) (vs:List V),ji CN H l vs->vs.length=l.length
 | [],vs,h=>by cases h;rfl
 | x::l,vs,h=>by
  obtain ⟨v,r,e,_,h2⟩:=h;subst e;rw [List.length_cons,List.length_cons,ji.len l r h2]
theorem ji.snoc{CN:Addr}{H:Hp}{x:jw}{v:V}(hx:jz CN H x v):∀ (l:List jw) (vs:List V),ji CN H l vs->ji CN H (l ++ [x]) (vs ++ [v])
 | [],vs,h=>by cases h;exact ⟨v,[],rfl,hx,rfl⟩
 | y::l,vs,h=>by
  obtain ⟨u,r,e,h1,h2⟩:=h;subst e;exact ⟨u,r ++ [v],rfl,h1,ji.snoc hx l r h2⟩
theorem ji.get{CN:Addr}{H:Hp}:∀ (l:List jw) (vs:List V),ji CN H l vs->∀ (i:Nat) (x:jw),l[i]? = some x->∃ v,vs[i]? = some v/\jz CN H x v
 | [],vs,h,i,x,e=>by simp at e
 | y::l,vs,h,i,x,e=>by
  obtain ⟨u,r,e1,h1,h2⟩:=h;subst e1;cases i with
  | zero=>cases e;exact ⟨u,rfl,h1⟩
  | succ i=>exact ji.get l r h2 i x (by simpa using e)
theorem qr.len{CN:Addr}{H:Hp}:∀ (l:List (List jw)) (vs:List V),qr CN H l vs->vs.length=l.length
 | [],vs,h=>by cases h;rfl
 | x::l,vs,h=>by
  obtain ⟨a,ws,r,e,_,_,_,h2⟩:=h;subst e;rw [List.length_cons,List.length_cons,qr.len l r h2]
theorem qr.get{CN:Addr}{H:Hp}:∀ (l:List (List jw)) (vs:List V),qr CN H l vs->∀ (i:Nat) (x:List jw),l[i]? = some x->∃ a ws,vs[i]? = some (.ref a)/\H a=some (.lst ws)/\ws.length<=1000/\ji CN H x ws
 | [],vs,h,i,x,e=>by simp at e
 | y::l,vs,h,i,x,e=>by
  obtain ⟨a,ws,r,e1,h1,h0,h2,h3⟩:=h;subst e1;cases i with
  | zero=>cases e;exact ⟨a,ws,rfl,h1,h0,h2⟩
  | succ i=>exact qr.get l r h3 i x (by simpa using e)
theorem jz.fld{CN:Addr}{H:Hp}{x:jw}{v:V}(h:jz CN H x v):∃ y dx fs,v = .ref y/\H y=some (.ins CN dx fs)/\fs.lookup ("depth":Str)=some (V.int (x.depth:Int)):=by
 cases x with
 | mk k ls ps bs =>
  obtain ⟨x,dx,a1,a2,a3,ah,af,ag,e,h1,_⟩:=h;exact ⟨x,dx,_,e,h1,rfl⟩
mutual
theorem jz.turn{CN x dx:Addr}{H:Hp}{fs:List (Str×V)}{d:Int}{o:HO}(hx:H x=some (.ins CN dx fs))(hd:fs.lookup ("depth":Str)=some (.int d)):∀ (n:jw) (v:V),(n.depth:Int) < d->jz CN H n v->jz CN (upd H x o) n v
 | .mk k ls ps bs,v,hl,h=>by
  obtain ⟨y,dy,a1,a2,a3,ah,af,ag,e,h1,h2,h3,h4,h0,h5,h6,h7⟩:=h;have nl:∀ {a:Addr} {us:List V},H a=some (.lst us)->a≠x:=λq z=>by rw [z,hx] at q;cases q
  have ny:y≠x:=λz=>by
   rw [z,hx] at h1;injection h1 with h1;injection h1 with _ _ h1;rw [h1] at hd;have:V.int _=V.int d:=Option.some.inj hd
   injection this with this;have dn:(jw.mk k ls ps bs).depth=1 + max (qj ps) (xa bs):=by rw [jw.depth]
   rw [dn] at hl;omega
  have dn:(jw.mk k ls ps bs).depth=1 + max (qj ps) (xa bs):=by rw [jw.depth]
  rw [dn] at hl;refine ⟨y,dy,a1,a2,a3,ah,af,ag,e,by rw [jm ny];exact h1,by rw [jm (nl h2)];exact h2,by rw [jm (nl h3)];exact h3,by rw [jm (nl h4)];exact h4,h0,Paired.mapP h5 λl v z=>?_,ji.turn hx hd ps af (by omega) h6,qr.turn hx hd bs ag (by omega) h7⟩;cases l with
  | bytes u=>obtain ⟨a,e,q⟩:=z;exact ⟨a,e,by rw [jm (nl q)];exact q⟩
  | int i=>exact z
theorem ji.turn{CN x dx:Addr}{H:Hp}{fs:List (Str×V)}{d:Int}{o:HO}(hx:H x=some (.ins CN dx fs))(hd:fs.lookup ("depth":Str)=some (.int d)):∀ (l:List jw) (vs:List V),(qj l:Int) < d->ji CN H l vs->ji CN (upd H x o) l vs
 | [],vs,_,h=>h
 | n::l,vs,hl,h=>by
  obtain ⟨v,r,e,h1,h2⟩:=h;rw [qj] at hl;exact ⟨v,r,e,jz.turn hx hd n v (by omega) h1,ji.turn hx hd l r (by omega) h2⟩
theorem qr.turn{CN x dx:Addr}{H:Hp}{fs:List (Str×V)}{d:Int}{o:HO}(hx:H x=some (.ins CN dx fs))(hd:fs.lookup ("depth":Str)=some (.int d)):∀ (l:List (List jw)) (vs:List V),(xa l:Int) < d->qr CN H l vs->qr CN (upd H x o) l vs
 | [],vs,_,h=>h
 | n::l,vs,hl,h=>by
  obtain ⟨a,ws,r,e,h1,h0,h2,h3⟩:=h;rw [xa] at hl;have na:a≠x:=λz=>by rw [z,hx] at h1;cases h1
  exact ⟨a,ws,r,e,by rw [jm na];exact h1,h0,ji.turn hx hd n ws (by omega) h2,qr.turn hx hd l r (by omega) h3⟩
end
theorem j0z{T H H2:Hp}{x:Addr}{o:HO}(t:T x=none)(h:H x=none):ay T H (L2.upd H2 x o)=L2.upd (ay T H H2) x o:=by
 funext b
 by_cases e:b=x
 ·subst e;rw [jd];exact j_ t h jd
 ·rw [jm e];unfold ay;rw [jm e]
theorem j19{CN:Addr}{X:Tx}{H H2:Hp}{n:jw}{v:V}(h:jz CN (ay X.T H H2) n v):∃ (x:Addr) (dx:TX) (k:Str) (a1 a2 a3:Addr) (d:Nat),v = .ref x/\X.T x=none/\H x=none/\H2 x=some (.ins CN dx.d (je4 k a1 a2 a3 dx d))/\
  ∀ p e:V,jz CN (ay X.T H (L2.upd H2 x (.ins CN dx.d (je4 k a1 a2 a3 ⟨dx.d,p,e⟩ d)))) n (.ref x):=by
 cases n with
 | mk k ls ps bs =>
  obtain ⟨x,dx,a1,a2,a3,ah,af,ag,rfl,h1,h2,h3,h4,h0,h5,h6,h7⟩:=h;have hT:X.T x=none:=by
   cases e:X.T x with
   | none=>rfl
   | some o =>
    rw [jiv e] at h1;injection h1 with h1;subst h1;have:=X.tr _ _ _ _ e
    cases this
  rcases jak h1 with z | ⟨_,hH,z⟩
  ·rw [hT] at z;cases z
  refine ⟨x,dx,k,a1,a2,a3,_,rfl,hT,hH,z,λp e=>?_⟩;rw [j0z hT hH];have nl:∀ {a:Addr} {us:List V},ay X.T H H2 a=some (.lst us)->a≠x:=λq z=>by rw [z,h1] at q;cases q
  have hd:(je4 k a1 a2 a3 dx (1 + max (qj ps) (xa bs))).lookup ("depth":Str)=some (V.int ((1 + max (qj ps) (xa bs):Nat):Int)):=rfl;refine ⟨x,⟨dx.d,p,e⟩,a1,a2,a3,ah,af,ag,rfl,jd,by rw [jm (nl h2)];exact h2,by rw [jm (nl h3)];exact h3,by rw [jm (nl h4)];exact h4,h0,Paired.mapP h5 λl v z=>?_,ji.turn h1 hd ps af (by omega) h6,qr.turn h1 hd bs ag (by omega) h7⟩;cases l with
  | bytes u=>obtain ⟨a,e,q⟩:=z;exact ⟨a,e,by rw [jm (nl q)];exact q⟩
  | int i=>exact z
theorem jta{l:List jw}{m:Int}(h1:m∈l.map λx=>(x.depth:Int))(h2:∀ y∈l.map (λx=>(x.depth:Int)),y<=m):m=(qj l:Int):=by
 have up:∀ (l:List jw),∀ x∈l,x.depth<=qj l:=by
  intro l;induction l with
  | nil=>intro x hx;cases hx
  | cons y l ih =>
   intro x hx;rw [qj];rcases List.mem_cons.mp hx with z | z
   ·rw [z];omega
   ·have:=ih x z;omega
 have at_:∀ (l:List jw),l≠[]->∃ x∈l,x.depth=qj l:=by
  intro l;induction l with
  | nil=>intro z;exact absurd rfl z
  | cons y l ih =>
   intro _;rw [qj];by_cases e:l=[]
   ·subst e;exact ⟨y,.head _,by rw [qj];omega⟩
   ·obtain ⟨x,hx,ex⟩:=ih e;by_cases c:y.depth<=qj l
    ·exact ⟨x,List.mem_cons_of_mem _ hx,by omega⟩
    ·exact ⟨y,.head _,by omega⟩
 obtain ⟨x,hx,rfl⟩:=List.mem_map.mp h1;obtain ⟨y,hy,ey⟩:=at_ l (λz=>by subst z;cases hx);have a1:=up l x hx
 have a2:=h2 _ (List.mem_map.mpr ⟨y,hy,rfl⟩);omega
section
variable{P:Program}{w:World}{K:W.Frag}{mg:Str->Option Value}{base:Heap}{f g g2 CF fI CT tI CR CN nI:Addr}{fd gd gd2 au aw ndI:FuncData}
def jej(K:W.Frag)(CN:Addr):Sp:=λvs H Q _=>∃ (a:Addr) (us:List V) (l:List jw),vs=[.ref a]/\az K H a us/\ji CN H l us/\us.length<=1000/\∀ H',jg H H'->Q (.int (qj l:Int)) H'
theorem jql:jv ["trees", "tree"] ["trees"] (jj je8):=fs_
theorem jyg:ja8 ["trees", "tree"] (jj je8) { kind:=.function,names:=[(".0",.local),("tree",.local)],isGenerator:=false,isCoroutine:=false } [("tree",1)]:=⟨rfl,by decide +kernel,by decide +kernel,by decide +kernel,by decide +kernel⟩
theorem jxn(F:Fun K "greatest_depth" "greatest_depth" je8 f fd)(N:zu K mg "Tree" CN ["kind", "leaves", "parts", "blocks", "depth", "place", "end"])(mm:mg "max"=none):xb P w K mg base (CXF P w) 1 f fd ["trees"] (jej K CN):=by
 refine F.okF (k:=0) jql (λvs H Q E h=>?_) (λac A outer s H vs Q E hr h=>?_)
 ·obtain ⟨a,us,l,rfl,_⟩:=h;rfl
 obtain ⟨a,us,l,rfl,hS,hN,ak,q⟩:=h;have nd:=jql.nd
 refine ⟨_,je (jp (jzz rfl rfl mm (jd_ (own:=[("tree",1)]) (te:=ja4 K (qy 1) "depth") rfl nd (vz (pv 0)) jyg (λ_ _ _ _ _=>yo (i:=1) nd rfl (Or.inl rfl)) (λ_ _ _ _ _=>jbo) (λ_ _ _ _ _=>qc (pv 1) rfl)))),?_⟩;have ll:=ji.len l us hN
 refine ⟨_,rfl,a,rfl,⟨_,hS⟩,λD nD=>⟨λi m H'=>m=us.length - i/\i<=us.length/\jg H H'/\H' D=some (.lst (((l.take i).map λx=>(x.depth:Int)).map V.int)),⟨_,rfl,Nat.zero_le _,jo nD _,jd⟩,?_⟩⟩;rintro i m H' ⟨rfl,hi,sm,hD⟩;have hS':=sm.seq hS
 by_cases am:i < us.length
 ·have hx:us[i]? = some us[i]:=List.getElem?_eq_getElem am;have hl:l[i]? = some l[i]:=List.getElem?_eq_getElem (by omega)
  obtain ⟨v,ev,nv⟩:=ji.get l us (hN.same sm) i _ hl;refine .inr ⟨⟨_,_,hS',hx⟩,λH2=>∃ m',m' < us.length - i/\(m'=us.length - (i + 1)/\i + 1<=us.length/\jg H H2/\H2 D=some (.lst (((l.take (i + 1)).map λx=>(x.depth:Int)).map V.int))),λ_ z=>z,?_⟩;rintro x H2 ⟨rfl,hy⟩;have ey:=hy _ hS'
  rw [ev] at ey;cases ey;obtain ⟨y,dx,fs,rfl,hy1,hy2⟩:=nv.fld;refine ⟨rfl,_,rfl,y,CN,dx,fs,_,rfl,hy1,N.cl,N.no _ (.tail _ (.tail _ (.tail _ (.tail _ (.head _))))),hy2,_,hD,?_,_,Nat.lt_of_lt_of_le (Nat.lt_succ_self _) (by omega),rfl,am,zm sm nD,?_⟩
  ·rw [List.length_map,List.length_map,List.length_take];show min i l.length < 2 ^ 24
   omega
  ·rw [jd,List.take_add_one,hl,List.map_append,List.map_append];rfl
 ·have e:i=us.length:=by omega
  subst e;refine .inl ⟨⟨_,hS',Nat.le_refl _⟩,_,rfl,D,l.map λx=>(x.depth:Int),rfl,az.of ?_,λz=>?_,λm h1 h2=>?_⟩
  ·rw [hD,ll,List.take_length]
  ·have:l=[]:=by simpa using z
   subst this;exact q H' sm
  ·rw [jta h1 h2];exact q H' sm
theorem jb7{P:Program}{w:World}{X:Cx}:jav (CXF P w) X (λ_ _ _=>False):=by
 rintro pins σ H s e s' I ⟨x,T,C,dx,H',_,_,_,_,_,_,_,_,_,_,z⟩;exact z.elim
theorem jtb{l:List (List jw)}{p:Nat}{m:Int}(h1:m∈(l.map λx=>(qj x:Int)) ++ [(p:Int)])(h2:∀ y∈(l.map λx=>(qj x:Int)) ++ [(p:Int)],y<=m):m=((max p (xa l):Nat):Int):=by
 have up:∀ (l:List (List jw)),∀ x∈l,qj x<=xa l:=by
  intro l;induction l with
  | nil=>intro x hx;cases hx
  | cons y l ih =>
   intro x hx;rw [xa];rcases List.mem_cons.mp hx with z | z
   ·rw [z];omega
   ·have:=ih x z;omega
 have at_:∀ (l:List (List jw)),xa l=0\/∃ x∈l,qj x=xa l:=by
  intro l;induction l with
  | nil=>exact .inl (by rw [xa])
  | cons y l ih =>
   right
   rw [xa];by_cases c:qj y<=xa l
   ·rcases ih with z | ⟨x,hx,ex⟩
    ·exact ⟨y,.head _,by omega⟩
    ·exact ⟨x,List.mem_cons_of_mem _ hx,by omega⟩
   ·exact ⟨y,.head _,by omega⟩
 have a1:=h2 (p:Int) (by simp);have le:m<=((max p (xa l):Nat):Int):=by
  rcases List.mem_append.mp h1 with z | z
  ·obtain ⟨x,hx,rfl⟩:=List.mem_map.mp z;have:=up l x hx
   omega
  ·have:m=(p:Int):=by simpa using z
   omega
 have ge:(xa l:Int)<=m:=by
  rcases at_ l with z | ⟨x,hx,ex⟩
  ·omega
  ·have:=h2 _ (List.mem_append_left _ (List.mem_map.mpr ⟨x,hx,rfl⟩));omega
 omega
def Mn(x:Addr)(H:Hp):Hp:=λb=>if b=x then none else H b
theorem jqx{x:Addr}{H H':Hp}(b:a7 x H H'):jg (Mn x H) H':=λa o e=>by
 unfold Mn at e;by_cases z:a=x
 ·rw [if_pos z] at e;cases e
 ·rw [if_neg z] at e;exact b a o e z
theorem a7.refl(x:Addr)(H:Hp):a7 x H H:=λ_ _ e _=>e
theorem a7.trans{x:Addr}{H H1 H2:Hp}(h:a7 x H H1)(k:a7 x H1 H2):a7 x H H2:=λb o e n=>k b o (h b o e n) n
theorem a7.then{x:Addr}{H H1 H2:Hp}(h:a7 x H H1)(k:jg H1 H2):a7 x H H2:=λb o e n=>k b o (h b o e n)
theorem a7.updx{x:Addr}{H H1:Hp}{o:HO}(h:a7 x H H1):a7 x H (upd H1 x o):=λb u e n=>by rw [jm n];exact h b u e n
theorem a7.updn{x D:Addr}{H H1:Hp}{o:HO}(h:a7 x H H1)(nD:H D=none):a7 x H (upd H1 D o):=λb u e n=>by
 rw [jm (qu e nD)];exact h b u e n
structure jk7(K:W.Frag)(mg:Str->Option Value)(CN nI:Addr)(ndI:FuncData):Prop where
 c:zu K mg "Tree" CN ["kind", "leaves", "parts", "blocks", "depth", "place", "end"]
 make:Mk K CN nI
 F:Fun K "__init__" "Tree.__init__" jbd nI ndI
 b:zl K ndI ["self", "kind", "leaves", "parts", "blocks"] []
def jgg(CN:Addr):Sp:=λvs H Q _=>∃ (x dx:Addr) (k:Str) (a1 a2 a3:Addr) (af ag:List V) (ps:List jw) (bs:List (List jw)),vs=[.ref x,.str k,.ref a1,.ref a2,.ref a3]/\H x=some (.ins CN dx [])/\H a2=some (.lst af)/\H a3=some (.lst ag)/\
 af.length<=1000/\ag.length<=1000/\ji CN (Mn x H) ps af/\qr CN (Mn x H) bs ag/\∀ H',a7 x H H'->H' x=some (.ins CN dx (je4 k a1 a2 a3 ⟨dx,.non,.non⟩ (1 + max (qj ps) (xa bs))))->Q .non H'
theorem j1m:jv ["self", "kind", "leaves", "parts", "blocks", "below", "block"] ["self", "kind", "leaves", "parts", "blocks"] (jj jbd):=fs_
theorem j4a:ja8 ["self", "kind", "leaves", "parts", "blocks", "below", "block"] (jj jbd) { kind:=.function,names:=[(".0",.local),("block",.local),("greatest_depth",.globalImplicit)],isGenerator:=false,isCoroutine:=false } [("block",6)]:=⟨rfl,by decide +kernel,by decide +kernel,by decide +kernel,by decide +kernel⟩
theorem j3t(T:jk7 K mg CN nI ndI)(G:ax P w K mg base 1 "greatest_depth" ["trees"] (jej K CN))(mm:mg "max"=none):xb P w K mg base (CXF P w) 2 nI ndI ["self", "kind", "leaves", "parts", "blocks"] (jgg CN):=by
 refine T.F.okF (k:=1) j1m (λvs H Q E h=>?_) (λac A outer s H vs Q E hr h=>?_)
 ·obtain ⟨x,dx,k,a1,a2,a3,af,ag,ps,bs,rfl,_⟩:=h;rfl
 obtain ⟨x,dx,k,a1,a2,a3,af,ag,ps,bs,rfl,hx,h2,h3,l2,l3,hN,hB,q⟩:=h;have nd:=j1m.nd
 have G0:=G;obtain ⟨gf,gfd,gF,gb,gk,gm⟩:=G;refine ⟨_,jc (v_ (pv 0) (pv 1) rfl) (jc (v_ (pv 0) (pv 2) rfl) (jc (v_ (pv 0) (pv 3) rfl) (jc (v_ (pv 0) (pv 4) rfl) (jc (v_ (pv 0) jf3 rfl) (jc (v_ (pv 0) jf3 rfl)
  (jc (jw3 (i:=5) (own:=[("block",6)]) (te:=ym (jej K CN) [] (λ_ _ _=>False) (qk (qy 6) xh)) rfl nd rfl rfl rfl (vz (pv 4)) j4a (λ_ _ _ _ _=>yo (i:=6) nd rfl (Or.inl rfl)) (λ_ _ _ _ _=>jbo)
   (λ_ _ _ _ _=>v7 gF hr rfl gm gk gb .nil jb7 (ja (pv 6) jb)))
  (jc (j6 (vd PySem.F.plainAttrs_list PySem.F.slot_list_append PySem.F.type_list_append zh (pv 5) (ja (jh G0 hr rfl (ja (pv 3) jb)) jb)))
  (je (v_ (pv 0) (qa jbx qe (ye (j25 rfl) rfl mm (by decide +kernel) (ja (pv 5) jb))) rfl))))))))),?_⟩
 refine ⟨_,rfl,_,rfl,x,CN,dx,_,rfl,hx,T.c.cl,T.c.no _ (.head _),(by show 0 < 1000;decide),?_⟩;refine ⟨_,rfl,_,rfl,x,CN,dx,_,rfl,jd,T.c.cl,T.c.no _ (.tail _ (.head _)),(by show 1 < 1000;decide),?_⟩;refine ⟨_,rfl,_,rfl,x,CN,dx,_,rfl,jd,T.c.cl,T.c.no _ (.tail _ (.tail _ (.head _))),(by show 2 < 1000;decide),?_⟩;refine ⟨_,rfl,_,rfl,x,CN,dx,_,rfl,jd,T.c.cl,T.c.no _ (.tail _ (.tail _ (.tail _ (.head _)))),(by show 3 < 1000;decide),?_⟩;refine ⟨_,rfl,x,CN,dx,_,rfl,jd,T.c.cl,T.c.no _ (by decide),(by show 4 < 1000;decide),?_⟩;refine ⟨_,rfl,x,CN,dx,_,rfl,jd,T.c.cl,T.c.no _ (by decide),(by show 5 < 1000;decide),?_⟩;rw [jb9,jb9,jb9,jb9,jb9];have b4:a7 x H (upd H x (.ins CN dx [("kind",.str k),("leaves",.ref a1),("parts",.ref a2),("blocks",.ref a3),("place",.non),("end",.non)])):=(a7.refl x H).updx
 have n2:a2≠x:=λz=>by rw [z,hx] at h2;cases h2
 have n3:a3≠x:=λz=>by rw [z,hx] at h3;cases h3
 have lb:=qr.len bs ag hB;refine ⟨_,rfl,a3,rfl,⟨_,az.of (b4 _ _ h3 n3)⟩,λD nD=>⟨λi m H'=>m=ag.length - i/\i<=ag.length/\a7 x H H'/\H' x=some (.ins CN dx [("kind",.str k),("leaves",.ref a1),("parts",.ref a2),("blocks",.ref a3),("place",.non),("end",.non)])/\H' D=some (.lst (((bs.take i).map λx=>(qj x:Int)).map V.int)),?_,?_⟩⟩
 ·have Dx:D≠x:=λz=>by
   have nD:upd H x _ D=none:=nD;rw [z,jd] at nD;cases nD
  have nD':H D=none:=by
   have nD:upd H x _ D=none:=nD
   rwa [jm Dx] at nD
  exact ⟨_,rfl,Nat.zero_le _,b4.updn nD',by rw [jm (Ne.symm Dx),jd];rfl,jd⟩
 have Dx:D≠x:=λz=>by
  have nD:upd H x _ D=none:=nD;rw [z,jd] at nD;cases nD
 have nD':H D=none:=by
  have nD:upd H x _ D=none:=nD
  rwa [jm Dx] at nD
 rintro i m H' ⟨rfl,hi,bt,hx',hD⟩;have hS':az K H' a3 ag:=az.of (bt _ _ h3 n3)
 have small:∀ j,j<=ag.length->(((bs.take j).map λx=>(qj x:Int)).map V.int).length < sizeLine:=λj hj=>by
  rw [List.length_map,List.length_map,List.length_take];show min j bs.length < 2 ^ 24
  omega
 by_cases am:i < ag.length
 ·have hxi:ag[i]? = some ag[i]:=List.getElem?_eq_getElem am;have hl:bs[i]? = some bs[i]:=List.getElem?_eq_getElem (by omega)
  obtain ⟨a,ws,ev,ha,lw,nv⟩:=qr.get bs ag (hB.same (jqx bt)) i _ hl;refine .inr ⟨⟨_,_,hS',hxi⟩,λH2=>∃ m',m' < ag.length - i/\(m'=ag.length - (i + 1)/\i + 1<=ag.length/\a7 x H H2/\H2 x=some (.ins CN dx [("kind",.str k),("leaves",.ref a1),("parts",.ref a2),("blocks",.ref a3),("place",.non),("end",.non)])/\H2 D=some (.lst (((bs.take (i + 1)).map λx=>(qj x:Int)).map V.int))),λ_ z=>z,?_⟩;rintro y H2 ⟨rfl,hy⟩;have ey:=hy _ hS'
  rw [ev] at ey;cases ey;refine ⟨rfl,_,rfl,a,ws,_,rfl,az.of ha,nv,lw,λH3 sm=>⟨_,sm _ _ hD,small i hi,_,Nat.lt_of_lt_of_le (Nat.lt_succ_self _) (by omega),rfl,am,(bt.then sm).updn nD',by rw [jm (Ne.symm Dx)];exact sm _ _ hx',?_⟩⟩;rw [jd,List.take_add_one,hl,List.map_append,List.map_append];rfl
 ·have e:i=ag.length:=by omega
  subst e;rw [lb,List.take_length] at hD;refine .inl ⟨⟨_,hS',Nat.le_refl _⟩,_,rfl,.inl ⟨rfl,_,az.of hD⟩,_,rfl,a2,af,ps,rfl,az.of (bt _ _ h2 n2),hN.same (jqx bt),l2,λH3 sm=>?_⟩;have hD3:=sm _ _ hD
  have sl:=small _ (Nat.le_refl _);rw [lb,List.take_length] at sl;refine ⟨D,_,_,rfl,rfl,hD3,sl,?_⟩;refine ⟨_,rfl,D,(bs.map λx=>(qj x:Int)) ++ [(qj ps:Int)],rfl,az.of (by rw [jd,List.map_append];rfl),by simp,λm h1 h2=>?_⟩;rw [jtb h1 h2];refine ⟨_,_,rfl,rfl,_,rfl,x,CN,dx,_,rfl,by rw [jm (Ne.symm Dx)];exact sm _ _ hx',T.c.cl,T.c.no _ (.tail _ (.tail _ (.tail _ (.tail _ (.head _))))),(by show 6 < 1000;decide),q _ ((bt.then sm).updn nD').updx ?_⟩;rw [jd];rfl
end
open Vanbka (Lex reserved isSign isWord next nameNext wordNext eat b halt_ placeAt tooDeepAt Op Prim Way Exprs Fields Stmts)
def opK:Op->Str
 | .or => "or" | .and => "and" | .eq => "==" | .ne => "!=" | .lt => "<" | .le => "<=" | .gt => ">" | .ge => ">=" | .join => "++" | .add => "+" | .sub => "-" | .mul => "*" | .div => "/" | .rem => "percent"
def jdh:Prim->Str
 | .len => "len" | .keys => "keys" | .text => "text" | .num => "num" | .roll => "roll" | .cut => "cut" | .with => "with"
def jk_:Way->Str
 | .show => "show" | .table => "table" | .plot => "plot" | .check => "check" | .do => "do" | .give => "give"
def je1:Fields->List x8
 | .nil=>[]
 | .cons x _ l=>.bytes x::je1 l
mutual
def jx:Vanbka.Expr->jw
 | .num n=>.mk "NUMBER" [.int n] [] []
 | .quoted s=>.mk "QUOTED" [.bytes s] [] []
 | .truth v=>.mk (if v then "yes" else "no") [] [] []
 | .nothing=>.mk "none" [] [] []
 | .name x=>.mk "NAME" [.bytes x] [] []
 | .list l=>.mk "list" [] (y6 l) []
 | .record l=>.mk "record" (je1 l) (vo l) []
 | .minus e=>.mk "minus" [] [jx e] []
 | .not e=>.mk "not" [] [jx e] []
 | .bin o x y=>.mk (opK o) [] [jx x,jx y] []
 | .pick c x y=>.mk "?" [] [jx c,jx x,jx y] []
 | .call f l=>.mk "call" [] (jx f::y6 l) []
 | .index l i=>.mk "element" [] [jx l,jx i] []
 | .field r x=>.mk "field" [.bytes x] [jx r] []
 | .prim p l=>.mk (jdh p) [] (y6 l) []
 | .fn own ps s=>.mk "fn" (.bytes (own.getD [])::ps.map .bytes) [] [xk s]
def y6:Exprs->List jw
 | .nil=>[]
 | .cons e l=>jx e::y6 l
def vo:Fields->List jw
 | .nil=>[]
 | .cons _ e l=>jx e::vo l
def yb:Vanbka.Stmt->jw
 | .leta x e=>.mk "let" [.bytes x] [jx e] []
 | .seta x e=>.mk "set" [.bytes x] [jx e] []
 | .way w e=>.mk (jk_ w) [] [jx e] []
 | .iff c x=>.mk "if" [] [jx c] [xk x]
 | .iffElse c x y=>.mk "if" [] [jx c] [xk x,xk y]
 | .while_ c x=>.mk "while" [] [jx c] [xk x]
 | .for x e l=>.mk "for" [.bytes x] [jx e] [xk l]
 | .slider x v lo hi=>.mk "slider" [.bytes x,.int v,.int lo,.int hi] [] []
 | .choice x v l=>.mk "choice" (.bytes x :: .int v::l.map .bytes) [] []
def xk:Stmts->List jw
 | .nil=>[]
 | .cons s l=>yb s::xk l
end
mutual
theorem y8:∀ e:Vanbka.Expr,(jx e).depth=e.depth
 | .num n=>by simp [jx,jw.depth,qj,xa,Vanbka.Expr.depth]
 | .quoted s=>by simp [jx,jw.depth,qj,xa,Vanbka.Expr.depth]
 | .truth v=>by simp [jx,jw.depth,qj,xa,Vanbka.Expr.depth]
 | .nothing=>by simp [jx,jw.depth,qj,xa,Vanbka.Expr.depth]
 | .name x=>by simp [jx,jw.depth,qj,xa,Vanbka.Expr.depth]
 | .list l=>by simp [jx,jw.depth,xa,Vanbka.Expr.depth,jg_ l]
 | .record l=>by simp [jx,jw.depth,xa,Vanbka.Expr.depth,jo2 l]
 | .minus e=>by simp [jx,jw.depth,qj,xa,Vanbka.Expr.depth,y8 e]
 | .not e=>by simp [jx,jw.depth,qj,xa,Vanbka.Expr.depth,y8 e]
 | .bin o x y=>by simp [jx,jw.depth,qj,xa,Vanbka.Expr.depth,y8 x,y8 y]
 | .pick c x y=>by simp [jx,jw.depth,qj,xa,Vanbka.Expr.depth,y8 c,y8 x,y8 y]
 | .call f l=>by simp [jx,jw.depth,qj,xa,Vanbka.Expr.depth,y8 f,jg_ l]
 | .index l i=>by simp [jx,jw.depth,qj,xa,Vanbka.Expr.depth,y8 l,y8 i]
 | .field r x=>by simp [jx,jw.depth,qj,xa,Vanbka.Expr.depth,y8 r]
 | .prim p l=>by simp [jx,jw.depth,xa,Vanbka.Expr.depth,jg_ l]
 | .fn own ps s=>by simp [jx,jw.depth,qj,xa,Vanbka.Expr.depth,jaq s]
theorem jg_:∀ l:Exprs,qj (y6 l)=l.depth
 | .nil=>by simp [y6,qj,Exprs.depth]
 | .cons e l=>by simp [y6,qj,Exprs.depth,y8 e,jg_ l]
theorem jo2:∀ l:Fields,qj (vo l)=l.depth
 | .nil=>by simp [vo,qj,Fields.depth]
 | .cons x e l=>by simp [vo,qj,Fields.depth,y8 e,jo2 l]
theorem j0x:∀ s:Vanbka.Stmt,(yb s).depth=s.depth
 | .leta x e=>by simp [yb,jw.depth,qj,xa,Vanbka.Stmt.depth,y8 e]
 | .seta x e=>by simp [yb,jw.depth,qj,xa,Vanbka.Stmt.depth,y8 e]
 | .way w e=>by simp [yb,jw.depth,qj,xa,Vanbka.Stmt.depth,y8 e]
 | .iff c x=>by simp [yb,jw.depth,qj,xa,Vanbka.Stmt.depth,y8 c,jaq x]
 | .iffElse c x y=>by simp [yb,jw.depth,qj,xa,Vanbka.Stmt.depth,y8 c,jaq x,jaq y]
 | .while_ c x=>by simp [yb,jw.depth,qj,xa,Vanbka.Stmt.depth,y8 c,jaq x]
 | .for x e l=>by simp [yb,jw.depth,qj,xa,Vanbka.Stmt.depth,y8 e,jaq l]
 | .slider x v lo hi=>by simp [yb,jw.depth,qj,xa,Vanbka.Stmt.depth]
 | .choice x v l=>by simp [yb,jw.depth,qj,xa,Vanbka.Stmt.depth]
theorem jaq:∀ l:Stmts,qj (xk l)=l.depth
 | .nil=>by simp [xk,qj,Stmts.depth]
 | .cons s l=>by simp [xk,qj,Stmts.depth,j0x s,jaq l]
end
structure Ad where
 CF:Addr
 CT:Addr
 CR:Addr
 CN:Addr
abbrev a8(D:Ad):=RD D.CT D.CR
def a0{α:Type}(D:Ad)(X:Tx)(rd:Addr)(H:Hp)(Q:VK)(E:XK)(rep:Hp->α->V->Prop)(res:Except Nat (α×List Vanbka.Tok)):Prop:=match res with
 | .ok (a,r)=>∀ v H',a7 rd H H'->a8 D X rd H' r->rep (ay X.T H H') a v->Q v H'
 | .error l=>Err D.CF E 4 (placeAt X.all X.len l:Nat)
def xy(h r:Nat):Nat:=if h<=24 then 20 * (24 - h) + r else 0
structure Pre(D:Ad)(X:Tx)(rd:Addr)(H:Hp)(rs:List Vanbka.Tok)(h n r:Nat):Prop where
 R:a8 D X rd H rs
 dp:tooDeepAt (h:Int) rs=none
 le:h<=24
 fu:16 * rs.length + r<=n
 sm:X.all.length<=700
abbrev ql(D:Ad):Hp->Vanbka.Expr->V->Prop:=λH e v=>jz D.CN H (jx e) v
abbrev yj(D:Ad):Hp->Vanbka.Stmt->V->Prop:=λH e v=>jz D.CN H (yb e) v
abbrev jb4(D:Ad):Hp->Exprs->V->Prop:=λH l v=>∃ a vs,v = .ref a/\H a=some (.lst vs)/\vs.length<=700/\ji D.CN H (y6 l) vs
abbrev yy(D:Ad):Hp->Stmts->V->Prop:=λH l v=>∃ a vs,v = .ref a/\H a=some (.lst vs)/\vs.length<=700/\ji D.CN H (xk l) vs
section
variable{D:Ad}{X:Tx}{rd:Addr}{H H' H1 H2:Hp}{rs:List Vanbka.Tok}
theorem xc(bt:a7 rd H H1)(R:a8 D X rd H1 rs):∀ b,H1 b=none->H b=none:=λb z=>by
 cases e:H b with
 | none=>rfl
 | some o =>
  by_cases y:b=rd
  ·obtain ⟨dx,pre,h,_⟩:=R.ob;rw [y,h] at z;cases z
  ·rw [bt b o e y] at z;cases z
theorem jf8(st:jg X.T H1):jg (ay X.T H H1) H1:=λb o e=>by
 rcases jak e with z | ⟨_,_,z⟩
 ·exact st _ _ z
 ·exact z
theorem jk6{T:Hp}(h:∀ b o,H b=none->H1 b=some o->H2 b=some o):jg (ay T H H1) (ay T H H2):=jbi (λ_ z=>z) h
theorem xg{T:Hp}(s:jg H1 H2):jg (ay T H H1) (ay T H H2):=jk6 λb o _ e=>s b o e
theorem xz{T:Hp}(R:a8 D X rd H rs)(s:a7 rd H1 H2):jg (ay T H H1) (ay T H H2):=jk6 λb o n e=>s b o e λz=>by
 obtain ⟨dx,pre,h,_⟩:=R.ob;rw [z,h] at n;cases n
theorem yf{T:Hp}(bt:a7 rd H H1)(R:a8 D X rd H1 rs):jg (ay T H1 H2) (ay T H H2):=jbi (xc bt R) λ_ _ _ e=>e
theorem jbs{T:Hp}:jg T (ay T H H1):=λb o e=>jiv e
theorem ze(st:jg X.T H1){x:Addr}(n:H1 x=none):X.T x=none:=jk st n
end
theorem yu{D:Ad}{T:Hp}{H H1:Hp}{Q:Addr->Hp->Prop}{E:XK}{k:Str}{a1 a2 a3:Addr}{ah af ag:List V}{ls:List x8}{ps:List jw}{bs:List (List jw)}(gr:∀ b,H1 b=none->H b=none)(st:jg T H1)
  (h1:ay T H H1 a1=some (.lst ah)) (h2:ay T H H1 a2=some (.lst af)) (h3:ay T H H1 a3=some (.lst ag)) (sz:ah.length<=1000/\af.length<=1000/\ag.length<=1000)
  (hl:Paired (qo (ay T H H1)) ls ah) (hp:ji D.CN (ay T H H1) ps af) (hb:qr D.CN (ay T H H1) bs ag) (q:∀ x H2,jg H1 H2->jz D.CN (ay T H H2) (.mk k ls ps bs) (.ref x)->Q x H2) :
  ∀ x dx,H1 x=none->H1 dx=none->dx≠x->jgg D.CN [.ref x,.str k,.ref a1,.ref a2,.ref a3] (upd (upd H1 dx (.own x)) x (.ins D.CN dx [])) (λv H2=>v = .non/\Q x H2) E:=by
 intro x dx nx nd ne;have sub:jg (ay T H H1) H1:=λb o e=>by
  rcases jak e with z | ⟨_,_,z⟩
  ·exact st _ _ z
  ·exact z
 have up:jg H1 (Mn x (upd (upd H1 dx (.own x)) x (.ins D.CN dx []))):=λb o e=>by
  have n1:b≠x:=qu e nx;have n2:b≠dx:=qu e nd
  unfold Mn;rw [if_neg n1,jm n1,jm n2];exact e
 have up2:∀ b o,H1 b=some o->upd (upd H1 dx (.own x)) x (.ins D.CN dx []) b=some o:=λb o e=>by
  rw [jm (qu e nx),jm (qu e nd)];exact e
 refine ⟨x,dx,k,a1,a2,a3,af,ag,ps,bs,rfl,jd,up2 _ _ (sub _ _ h2),up2 _ _ (sub _ _ h3),sz.2.1,sz.2.2,hp.same (sub.trans up),hb.same (sub.trans up),λH2 bt e=>⟨rfl,?_⟩⟩;have sm:jg H1 H2:=a7.same nx nd bt
 have g:jg (ay T H H1) (ay T H H2):=xg sm;exact q x H2 sm ⟨x,⟨dx,.non,.non⟩,a1,a2,a3,ah,af,ag,rfl,j_ (jk st nx) (gr x nx) e,g _ _ h1,g _ _ h2,g _ _ h3,sz,Paired.mapP hl λ_ _ z=>z.same g,hp.same g,hb.same g⟩
section
variable{rs:List Vanbka.Tok}
theorem jxw(h:bc rs):next (isSign "=") rs=decide (jq rs=("=":Str)):=zp h (by decide +kernel) (by decide +kernel)
theorem jkj(h:bc rs):next (isSign ";") rs=decide (jq rs=(";":Str)):=zp h (by decide +kernel) (by decide +kernel)
theorem jem(h:bc rs):next (isSign ":") rs=decide (jq rs=(":":Str)):=zp h (by decide +kernel) (by decide +kernel)
theorem jaz(h:bc rs):next (isSign ",") rs=decide (jq rs=(",":Str)):=zp h (by decide +kernel) (by decide +kernel)
theorem jgz(h:bc rs):next (isSign "(") rs=decide (jq rs=("(":Str)):=zp h (by decide +kernel) (by decide +kernel)
theorem jc2(h:bc rs):next (isSign ")") rs=decide (jq rs=(")":Str)):=zp h (by decide +kernel) (by decide +kernel)
theorem jlo(h:bc rs):next (isSign "[") rs=decide (jq rs=("[":Str)):=zp h (by decide +kernel) (by decide +kernel)
theorem j2n(h:bc rs):next (isSign "]") rs=decide (jq rs=("]":Str)):=zp h (by decide +kernel) (by decide +kernel)
theorem j4w(h:bc rs):next (isSign "{") rs=decide (jq rs=("{":Str)):=zp h (by decide +kernel) (by decide +kernel)
theorem jsh(h:bc rs):next (isSign "}") rs=decide (jq rs=("}":Str)):=zp h (by decide +kernel) (by decide +kernel)
theorem jln(h:bc rs):next (isSign "-") rs=decide (jq rs=("-":Str)):=zp h (by decide +kernel) (by decide +kernel)
theorem nxQ(h:bc rs):next (isSign "?") rs=decide (jq rs=("?":Str)):=zp h (by decide +kernel) (by decide +kernel)
theorem jy2(h:bc rs):next (isSign ".") rs=decide (jq rs=(".":Str)):=zp h (by decide +kernel) (by decide +kernel)
theorem jbz(h:bc rs):next (isWord "let") rs=decide (jq rs=("let":Str)):=zg h (by decide +kernel) (by decide +kernel)
theorem jby(h:bc rs):next (isWord "set") rs=decide (jq rs=("set":Str)):=zg h (by decide +kernel) (by decide +kernel)
theorem jed(h:bc rs):next (isWord "if") rs=decide (jq rs=("if":Str)):=zg h (by decide +kernel) (by decide +kernel)
theorem jqu(h:bc rs):next (isWord "else") rs=decide (jq rs=("else":Str)):=zg h (by decide +kernel) (by decide +kernel)
theorem jao(h:bc rs):next (isWord "while") rs=decide (jq rs=("while":Str)):=zg h (by decide +kernel) (by decide +kernel)
theorem jco(h:bc rs):next (isWord "for") rs=decide (jq rs=("for":Str)):=zg h (by decide +kernel) (by decide +kernel)
theorem jsi(h:bc rs):next (isWord "in") rs=decide (jq rs=("in":Str)):=zg h (by decide +kernel) (by decide +kernel)
theorem w9(h:bc rs):next (isWord "slider") rs=decide (jq rs=("slider":Str)):=zg h (by decide +kernel) (by decide +kernel)
theorem w_(h:bc rs):next (isWord "choice") rs=decide (jq rs=("choice":Str)):=zg h (by decide +kernel) (by decide +kernel)
theorem ju6(h:bc rs):next (isWord "not") rs=decide (jq rs=("not":Str)):=zg h (by decide +kernel) (by decide +kernel)
theorem jy3(h:bc rs):next (isWord "fn") rs=decide (jq rs=("fn":Str)):=zg h (by decide +kernel) (by decide +kernel)
theorem j2o(h:bc rs):next (isWord "yes") rs=decide (jq rs=("yes":Str)):=zg h (by decide +kernel) (by decide +kernel)
theorem j3y(h:bc rs):next (isWord "no") rs=decide (jq rs=("no":Str)):=zg h (by decide +kernel) (by decide +kernel)
theorem j0o(h:bc rs):next (isWord "none") rs=decide (jq rs=("none":Str)):=zg h (by decide +kernel) (by decide +kernel)
end
def jyo(D:Ad)(X:Tx)(rd:Addr)(H:Hp)(Q:VK)(E:XK)(res:Except Nat (List Vanbka.Tok)):Prop:=match res with
 | .ok r=>∀ v H',a7 rd H H'->a8 D X rd H' r->Q v H'
 | .error l=>Err D.CF E 4 (placeAt X.all X.len l:Nat)
def jju{α:Type}(D:Ad)(X:Tx)(rd:Addr)(H:Hp)(Q:VK)(E:XK)(rep:Hp->α->V->Prop)(res:Except Nat (α×List Vanbka.Tok)):Prop:=match res with
 | .ok (a,r)=>∀ v H',a7 rd H H'->a8 D X rd H' r->rep X.T a v->Q v H'
 | .error l=>Err D.CF E 4 (placeAt X.all X.len l:Nat)
section
variable{D:Ad}{X:Tx}{rd:Addr}{H H1:Hp}{Q Q1:VK}{E:XK}{rs:List Vanbka.Tok}{α β:Type}{rep:Hp->β->V->Prop}{rep1:Hp->α->V->Prop}
theorem q_{x:Except Nat (α×List Vanbka.Tok)}{f:α×List Vanbka.Tok->Except Nat (β×List Vanbka.Tok)}(aa:a0 D X rd H Q E rep (x >>= f))
  (k:∀ a r,x = .ok (a,r)->a0 D X rd H Q E rep (f (a,r))->∀ v H2,a7 rd H1 H2->a8 D X rd H2 r->rep1 (ay X.T H1 H2) a v->Q1 v H2):a0 D X rd H1 Q1 E rep1 x:=by
 cases x with
 | error l=>exact aa
 | ok p=>exact λv H2 b R n=>k p.1 p.2 rfl aa v H2 b R n
theorem jbr{x:Except Nat (α×List Vanbka.Tok)}{f:α×List Vanbka.Tok->Except Nat (β×List Vanbka.Tok)}(aa:a0 D X rd H Q E rep (x >>= f))
  (k:∀ a r,x = .ok (a,r)->a0 D X rd H Q E rep (f (a,r))->∀ v H2,a7 rd H1 H2->a8 D X rd H2 r->rep1 X.T a v->Q1 v H2):jju D X rd H1 Q1 E rep1 x:=by
 cases x with
 | error l=>exact aa
 | ok p=>exact λv H2 b R n=>k p.1 p.2 rfl aa v H2 b R n
theorem x_{x:Except Nat (List Vanbka.Tok)}{f:List Vanbka.Tok->Except Nat (β×List Vanbka.Tok)}(aa:a0 D X rd H Q E rep (x >>= f))
  (k:∀ r,x = .ok r->a0 D X rd H Q E rep (f r)->∀ v H2,a7 rd H1 H2->a8 D X rd H2 r->Q1 v H2):jyo D X rd H1 Q1 E x:=by
 cases x with
 | error l=>exact aa
 | ok r=>exact λv H2 b R=>k r rfl aa v H2 b R
theorem y9{i:Nat}{σ:St}{ta:TE}{p:Vanbka.Tok->Bool}{z:Str}(R:a8 D X rd H rs)(hp:next p rs=decide (jq rs=z))(h:jyo D X rd H Q E (eat p rs))(hz:z≠"END":=by decide)(hta:∀ Q':VK,Q' (.str z) H->ta σ H Q':=by exact λ_ q=>q)(hi:σ[i]? = some (some (.ref rd)):=by rfl) :
  vj D.CR "take" (jat D.CF D.CT D.CR) [] E (qy i) (qk ta xh) σ H Q:=by
 refine jax hi R (hta _ ⟨X,rd,rs,z,rfl,hz,R,?_⟩);unfold eat at h;rw [hp] at h;by_cases c:jq rs=z
 ·rw [dt_ c,if_pos rfl] at h;rw [if_pos c];exact λv H' b R' _=>h v H' b R'
 ·rw [df_ c,if_neg Bool.false_ne_true] at h;rw [if_neg c];exact h
theorem jcq{i:Nat}{σ:St}{ta:TE}(R:a8 D X rd H rs)(h:jju D X rd H Q E (λT x v=>qo T (.bytes x) v) (Vanbka.name rs))(hta:∀ Q':VK,Q' (.str "NAME") H->ta σ H Q':=by exact λ_ q=>q)(hi:σ[i]? = some (some (.ref rd)):=by rfl) :
  vj D.CR "take" (jat D.CF D.CT D.CR) [] E (qy i) (qk ta xh) σ H Q:=by
 refine jax hi R (hta _ ⟨X,rd,rs,_,rfl,by decide,R,?_⟩);have wf:=R.wfr
 cases rs with
 | nil=>rw [if_neg (show ¬ jq [] = "NAME" by decide)];exact h
 | cons t r =>
  obtain ⟨l,p,n⟩:=t;by_cases c:jy l = "NAME"
  ·obtain ⟨x,rfl,hx⟩:=(ji2 (wf _ (.head _))).mp c;rw [if_pos (show jq ({ lex:=.word x,place:=p,len:=n }::r) = "NAME" from c)];have e:Vanbka.name ({ lex:=.word x,place:=p,len:=n }::r) = .ok (x,r):=by
    unfold Vanbka.name nameNext;dsimp only;rw [hx];rfl
   rw [e] at h;intro v H' b R' tv;have tv:(if reserved.contains x then v = .non else ∃ a,v = .ref a/\X.T a=some (.lst (vb x))):=tv
   rw [hx,if_neg Bool.false_ne_true] at tv;exact h v H' b R' tv
  ·rw [if_neg (show ¬ jq ({ lex:=l,place:=p,len:=n }::r) = "NAME" from c)];have e:Vanbka.name ({ lex:=l,place:=p,len:=n }::r)=halt_ ({ lex:=l,place:=p,len:=n }::r):=by
    unfold Vanbka.name nameNext;cases l with
    | word x =>
     dsimp only;cases hx:reserved.contains x with
     | true=>rfl
     | false=>exact absurd (zr hx) c
    | _=>rfl
   rw [e] at h;exact h
theorem jjn{i:Nat}{σ:St}{ta:TE}(R:a8 D X rd H rs)(h:jju D X rd H Q E (λ_ n v=>v = .int (n:Nat)) (Vanbka.number rs))(hta:∀ Q':VK,Q' (.str "NUMBER") H->ta σ H Q':=by exact λ_ q=>q)(hi:σ[i]? = some (some (.ref rd)):=by rfl) :
  vj D.CR "take" (jat D.CF D.CT D.CR) [] E (qy i) (qk ta xh) σ H Q:=by
 refine jax hi R (hta _ ⟨X,rd,rs,_,rfl,by decide,R,?_⟩);have wf:=R.wfr
 cases rs with
 | nil=>rw [if_neg (show ¬ jq [] = "NUMBER" by decide)];exact h
 | cons t r =>
  obtain ⟨l,p,n⟩:=t;by_cases c:jy l = "NUMBER"
  ·obtain ⟨x,rfl⟩:=(jsw (wf _ (.head _))).mp c;rw [if_pos (show jq ({ lex:=.num x,place:=p,len:=n }::r) = "NUMBER" from c)];exact λv H' b R' tv=>h v H' b R' tv
  ·rw [if_neg (show ¬ jq ({ lex:=l,place:=p,len:=n }::r) = "NUMBER" from c)];cases l with
   | num x=>exact absurd rfl c
   | _=>exact h
theorem jxz{i:Nat}{σ:St}{ta:TE}(R:a8 D X rd H rs)(h:jju D X rd H Q E (λT x v=>qo T (.bytes x) v) (Vanbka.quoted rs))(hta:∀ Q':VK,Q' (.str "QUOTED") H->ta σ H Q':=by exact λ_ q=>q)(hi:σ[i]? = some (some (.ref rd)):=by rfl) :
  vj D.CR "take" (jat D.CF D.CT D.CR) [] E (qy i) (qk ta xh) σ H Q:=by
 refine jax hi R (hta _ ⟨X,rd,rs,_,rfl,by decide,R,?_⟩);have wf:=R.wfr
 cases rs with
 | nil=>rw [if_neg (show ¬ jq [] = "QUOTED" by decide)];exact h
 | cons t r =>
  obtain ⟨l,p,n⟩:=t;by_cases c:jy l = "QUOTED"
  ·obtain ⟨x,rfl⟩:=(jsv (wf _ (.head _))).mp c;rw [if_pos (show jq ({ lex:=.quoted x,place:=p,len:=n }::r) = "QUOTED" from c)];exact λv H' b R' tv=>h v H' b R' tv
  ·rw [if_neg (show ¬ jq ({ lex:=l,place:=p,len:=n }::r) = "QUOTED" from c)];cases l with
   | quoted x=>exact absurd rfl c
   | _=>exact h
theorem zi{i:Nat}{σ:St}{ta:TE}{z:Str}(R:a8 D X rd H rs)(c:jq rs=z)(h:∀ v H',a7 rd H H'->a8 D X rd H' (rs.drop 1)->jym X.T rs v->Q v H')(hz:z≠"END":=by decide)(hta:∀ Q':VK,Q' (.str z) H->ta σ H Q':=by exact λ_ q=>q)(hi:σ[i]? = some (some (.ref rd)):=by rfl) :
  vj D.CR "take" (jat D.CF D.CT D.CR) [] E (qy i) (qk ta xh) σ H Q:=by
 refine jax hi R (hta _ ⟨X,rd,rs,z,rfl,hz,R,?_⟩);rw [if_pos c];exact h
theorem jf4{i:Nat}{σ:St}{t:Vanbka.Tok}{r:List Vanbka.Tok}(R:a8 D X rd H (t::r))(h:∀ H',a7 rd H H'->a8 D X rd H' r->Q (.str (jy t.lex)) H')(hi:σ[i]? = some (some (.ref rd)):=by rfl) :
  vj D.CR "move_on" (jhj D.CT D.CR) [] E (qy i) xh σ H Q :=
 jax hi R ⟨X,rd,t,r,rfl,R,h⟩
end
open Vanbka (whole number namesMore quotedMore)
abbrev jgm:PySem.Stmt:=top 32
abbrev jfg:PySem.Stmt:=top 34
abbrev jje:PySem.Stmt:=top 36
section
variable{P:Program}{w:World}{K:W.Frag}{mg:Str->Option Value}{base:Heap}{f:Addr}{fd:FuncData}{D:Ad}
structure z_(P:Program)(w:World)(K:W.Frag)(mg:Str->Option Value)(base:Heap)(D:Ad):Prop where
 fault:∃ fI au,v8 K mg D.CF fI au
 rd:jas K mg D.CR
 tree:∃ nI ndI,jk7 K mg D.CN nI ndI/\xb P w K mg base (CXF P w) 2 nI ndI ["self", "kind", "leaves", "parts", "blocks"] (jgg D.CN)
 look:ja5 P w K mg base D.CR 1 "look" ["self"] (jfw D.CT D.CR)
 behind:ja5 P w K mg base D.CR 1 "look_behind" ["self"] (jgi D.CT D.CR)
 here:ja5 P w K mg base D.CR 1 "here" ["self"] (jhk D.CT D.CR)
 move:ja5 P w K mg base D.CR 2 "move_on" ["self"] (jhj D.CT D.CR)
 take:ja5 P w K mg base D.CR 3 "take" ["self", "kind"] (jat D.CF D.CT D.CR)
 cNo:CI mg "NO_PROGRAM" 4
 ml:mg "len"=none
 cOr:CI mg "OR_LINE" 1
 cNot:CI mg "NOT_LINE" 3
 cCmp:CI mg "COMPARED_LINE" 4
 cSig:CI mg "SIGNED_LINE" 8
 last:ja5 P w K mg base D.CR 1 "behind_last" ["self"] (jj4 D.CT D.CR)
theorem yp{N:List Str}{qual:Str}{scope:Scope}{f:Addr}{cd:Value}{A:Around}{outer:List Env}{s:Shared}{H:Hp}{E:XK}{j:Nat}{e1 e2 e3 e4:PySem.Expr}{t1 t2 t3 t4:TE}{np cpos:Pos}(B:z_ P w K mg base D)
  (hr:xw j (xt (CXF P w) P w K mg base N qual scope f cd A outer s H E).A) (hg:Gl (xt (CXF P w) P w K mg base N qual scope f cd A outer s H E) "Tree") (ha:PA (xt (CXF P w) P w K mg base N qual scope f cd A outer s H E) [e1,e2,e3,e4] (qk t1 (qk t2 (qk t3 (qk t4 xh))))) (hj:3<=j:=by decide)
  (he:starEach [e1,e2,e3,e4] (xt (CXF P w) P w K mg base N qual scope f cd A outer s H E).env=(false,eval e1 (xt (CXF P w) P w K mg base N qual scope f cd A outer s H E).env)::starEach [e2,e3,e4] (xt (CXF P w) P w K mg base N qual scope f cd A outer s H E).env:=by rfl)
  (hpl:(backTo cpos (starEach [e2,e3,e4] (xt (CXF P w) P w K mg base N qual scope f cd A outer s H E).env)).any (·.1)=false:=by rfl) :
  PE (xt (CXF P w) P w K mg base N qual scope f cd A outer s H E) (.Call (.Name "Tree" np) [e1,e2,e3,e4] [] cpos) (jm7 D.CN (jgg D.CN) [] E (qk t1 (qk t2 (qk t3 (qk t4 xh))))):=by
 obtain ⟨nI,ndI,T,F⟩:=B.tree;exact jbq T.make F (hr.mono hj) hg T.c.m T.b .nil w8 ha (by decide) he hpl
def jig(D:Ad):Sp:=λvs H Q E=>∃ X rd rs,vs=[.ref rd]/\a8 D X rd H rs/\jju D X rd H Q E (λ_ z v=>v = .int z) (whole rs)
theorem jzm:jv ["reader"] ["reader"] (jj jgm):=fs_
theorem jxf(F:Fun K "read_whole" "read_whole" jgm f fd)(B:z_ P w K mg base D):xb P w K mg base (CXF P w) 4 f fd ["reader"] (jig D):=by
 refine F.okF (k:=3) jzm (λvs H Q E h=>?_) (λac A outer s H vs Q E hr h=>?_)
 ·obtain ⟨X,rd,rs,rfl,_⟩:=h;rfl
 obtain ⟨X,rd,rs,rfl,R,aa⟩:=h;have cl:=B.rd.c.cl
 refine ⟨_,jc (qi (js xi (xf B.look cl hr (pv 0)) jf (j9 _))
   (jc (j6 (qg B.take cl hr (pv 0) (ja jf jb))) (je (jp (j3p j0_ (qg B.take cl hr (pv 0) (ja jf jb)))))) j3)
  (je (jp (qg B.take cl hr (pv 0) (ja jf jb)))),?_⟩
 unfold whole at aa;rw [jln R.wfr] at aa;refine zj R ⟨rfl,_,rfl,qd (λc=>?_) (λc=>?_)⟩
 ·have c:jq rs = "-":=by have:=ot_ c;injection this
  rw [dt_ c,if_pos rfl] at aa;refine zi R c λv H1 b1 R1 _=>?_;refine jjn R1 ?_;cases he:number (rs.drop 1) with
  | error l=>rw [he] at aa;exact aa
  | ok p =>
   rw [he] at aa;exact λv H2 b2 R2 e=>⟨_,e,aa _ _ (b1.trans b2) R2 rfl⟩
 ·have c:¬ jq rs = "-":=λz=>c (dt_ (by rw [z]));rw [df_ c,if_neg Bool.false_ne_true] at aa;refine jjn R ?_;cases he:number rs with
  | error l=>rw [he] at aa;exact aa
  | ok p =>
   rw [he] at aa;exact λv H2 b2 R2 e=>aa _ _ b2 R2 e
abbrev j4q:Hp->Bytes->V->Prop:=λT x v=>qo T (.bytes x) v
structure jti(kd:Str)(one:List Vanbka.Tok->Except Nat (Bytes×List Vanbka.Tok))(more:Nat->List Vanbka.Tok->Except Nat (List Bytes×List Vanbka.Tok)):Prop where
 rd:∀ {D:Ad} {X:Tx} {rd:Addr} {H:Hp} {Q:VK} {E:XK} {rs:List Vanbka.Tok} {i:Nat} {σ:St} {ta:TE},a8 D X rd H rs->jju D X rd H Q E j4q (one rs)->(∀ Q':VK,Q' (.str kd) H->ta σ H Q')->σ[i]? = some (some (.ref rd))->
  vj D.CR "take" (jat D.CF D.CT D.CR) [] E (qy i) (qk ta xh) σ H Q
 zero:∀ ts,more 0 ts = .ok ([],ts)
 succ:∀ n ts,more (n + 1) ts=if next (isSign ",") ts then (do
   let (x,r) <- one (ts.drop 1)
   let (l,r) <- more n r
   return (x::l,r)) else .ok ([],ts)
 len:∀ ts x r,one ts = .ok (x,r)->r.length + 1<=ts.length
theorem jsu:jti "NAME" Vanbka.name namesMore where
 rd:=λR h hta hi=>jcq R h hta hi
 zero:=λts=>rfl
 succ:=λn ts=>rfl
 len:=λts x r h=>by
  have:=Cell.za (ts:=ts);rw [h] at this;exact this.len
theorem jos:jti "QUOTED" Vanbka.quoted quotedMore where
 rd:=λR h hta hi=>jxz R h hta hi
 zero:=λts=>rfl
 succ:=λn ts=>rfl
 len:=λts x r h=>by
  have:=Cell.jgr (ts:=ts);rw [h] at this;exact this.len
theorem RD.updn{CT CR:Addr}{X:Tx}{rd l:Addr}{H:Hp}{rs:List Vanbka.Tok}{o:HO}(R:RD CT CR X rd H rs)(n:X.T l=none)(ne:l≠rd):RD CT CR X rd (upd H l o) rs:=by
 obtain ⟨dx,pre,h1,h2⟩:=R.ob;exact ⟨zm R.st n,R.toks,R.wf,R.no,dx,pre,by rw [jm (Ne.symm ne)];exact h1,h2⟩
theorem RD.len{CT CR:Addr}{X:Tx}{rd:Addr}{H:Hp}{rs:List Vanbka.Tok}(R:RD CT CR X rd H rs):rs.length<=X.all.length:=by
 obtain ⟨dx,pre,h1,h2⟩:=R.ob;rw [h2,List.length_append];omega
theorem RD.ne{CT CR:Addr}{X:Tx}{rd l:Addr}{H:Hp}{rs:List Vanbka.Tok}(R:RD CT CR X rd H rs)(n:H l=none):l≠rd:=λz=>by
 obtain ⟨dx,pre,h1,h2⟩:=R.ob;rw [z,h1] at n;cases n
theorem yw{rs:List Vanbka.Tok}{z:Str}(h:jq rs=z)(hz:z≠"END"):∃ t r,rs=t::r/\rs.drop 1=r/\jy t.lex=z:=by
 cases rs with
 | nil=>exact absurd h.symm hz
 | cons t r=>exact ⟨t,r,rfl,rfl,h⟩
abbrev jji:Hp->List Bytes->V->Prop:=λH l v=>∃ a vs,v = .ref a/\H a=some (.lst vs)/\vs.length<=700/\Paired (qo H) (l.map x8.bytes) vs
def wu(one:List Vanbka.Tok->Except Nat (Bytes×List Vanbka.Tok))(more:Nat->List Vanbka.Tok->Except Nat (List Bytes×List Vanbka.Tok))(rs:List Vanbka.Tok):Except Nat (List Bytes×List Vanbka.Tok):=do
 let (x,r) <- one rs
 let (l,r) <- more r.length r
 return (x::l,r)
def jb6(D:Ad)(kd:Str)(one:List Vanbka.Tok->Except Nat (Bytes×List Vanbka.Tok))(more:Nat->List Vanbka.Tok->Except Nat (List Bytes×List Vanbka.Tok)):Sp:=λvs H Q E=>∃ X rd rs,vs=[.ref rd,.str kd]/\a8 D X rd H rs/\X.all.length<=700/\a0 D X rd H Q E jji (wu one more rs)
theorem jn3:jv ["reader", "kind", "leaves"] ["reader", "kind"] (jj jfg):=fs_
theorem jml{kd:Str}{one:List Vanbka.Tok->Except Nat (Bytes×List Vanbka.Tok)}{more:Nat->List Vanbka.Tok->Except Nat (List Bytes×List Vanbka.Tok)}(L:jti kd one more)(F:Fun K "read_leaves" "read_leaves" jfg f fd)(B:z_ P w K mg base D) :
  xb P w K mg base (CXF P w) 4 f fd ["reader", "kind"] (jb6 D kd one more):=by
 refine F.okF (k:=3) jn3 (λvs H Q E h=>?_) (λac A outer s H vs Q E hr h=>?_)
 ·obtain ⟨X,rd,rs,rfl,_⟩:=h;rfl
 obtain ⟨X,rd,rs,rfl,R,sz,aa⟩:=h;have cl:=B.rd.c.cl
 have nd:=jn3.nd;refine ⟨_,jc (ju (i:=2) nd rfl (Or.inl rfl) (j5 (ja (qg B.take cl hr (pv 0) (ja (pv 1) jb)) jb)))
  (jc (z6 jad (js xi (xf B.look cl hr (pv 0)) jf (j9 _))
   (jc (j6 (qg B.take cl hr (pv 0) (ja jf jb)))
   (je (j6 (vd PySem.F.plainAttrs_list PySem.F.slot_list_append PySem.F.type_list_append zh (pv 2) (ja (qg B.take cl hr (pv 0) (ja (pv 1) jb)) jb))))))
  (je (jp (pv 2)))),?_⟩
 refine L.rd R (jbr aa λx r he aa v H1 b1 R1 lf=>?_) (λ_ q=>⟨_,rfl,q⟩) rfl;refine ⟨(by show 1<=2 ^ 24;decide),λl nl=>?_⟩;have gr:=xc b1 R1
 have nlH:H l=none:=gr l nl;have nlT:X.T l=none:=ze R1.st nl
 have nlr:l≠rd:=R1.ne nl;have hl1:=L.len _ _ _ he
 have hal:=R.len;refine ⟨λm σ H'=>∃ (fu:Nat) (rs':List Vanbka.Tok) (done:List Bytes) (vs:List V),σ=[some (.ref rd),some (.str kd),some (.ref l)]/\a7 rd H H'/\a8 D X rd H' rs'/\rs'.length<=fu/\m=rs'.length/\H' l=some (.lst vs)/\Paired (qo X.T) (done.map x8.bytes) vs/\vs.length + rs'.length<=X.all.length/\
   a0 D X rd H Q E jji (more fu rs' >>= λp=>pure (done ++ p.1,p.2)),
  ⟨_,r.length,r,[x],[v],rfl,b1.updn nlH,R1.updn nlT nlr,Nat.le_refl _,rfl,jd,.cons lf .nil,by rw [List.length_singleton];omega,aa⟩,?_⟩
 rintro m σ H' ⟨fu,rs',done,vs,rfl,bt,R',hfu,rfl,hl,pr,hsz,aa⟩;have pl:=Paired.len pr
 refine zj R' ⟨rfl,_,rfl,qd (λc=>?_) (λc=>?_)⟩
 ·have c:jq rs' = ",":=by have:=ot_ c;injection this
  obtain ⟨t,r',e1,e2,_⟩:=yw c (by decide);cases fu with
  | zero=>rw [e1] at hfu;simp at hfu
  | succ fu =>
   rw [L.succ,jaz R'.wfr,dt_ c,if_pos rfl] at aa;refine ⟨λσ' H2=>∃ m',m' < rs'.length/\∃ (fu:Nat) (rs':List Vanbka.Tok) (done:List Bytes) (vs:List V),σ'=[some (.ref rd),some (.str kd),some (.ref l)]/\a7 rd H H2/\a8 D X rd H2 rs'/\rs'.length<=fu/\m'=rs'.length/\H2 l=some (.lst vs)/\Paired (qo X.T) (done.map x8.bytes) vs/\vs.length + rs'.length<=X.all.length/\
    a0 D X rd H Q E jji (more fu rs' >>= λp=>pure (done ++ p.1,p.2)),λ_ _ z=>z,?_⟩
   refine zi R' c λ_ H2 b2 R2 _=>?_;have hl2:H2 l=some (.lst vs):=b2 _ _ hl nlr
   refine ⟨_,rfl,.inl ⟨rfl,_,az.of hl2⟩,?_⟩;rw [e2] at aa R2;have jh1:rs'.length=r'.length + 1:=by rw [e1];rfl
   refine L.rd R2 ?_ (λ_ q=>⟨_,rfl,q⟩) rfl;cases he2:one r' with
   | error z=>rw [he2] at aa;exact aa
   | ok p =>
    obtain ⟨y,r2⟩:=p;rw [he2] at aa;have hl3:=L.len _ _ _ he2
    intro v3 H3 b3 R3 lf3;have hl4:H3 l=some (.lst vs):=b3 _ _ hl2 nlr
    refine ⟨l,_,_,rfl,rfl,hl4,?_,r2.length,by omega,fu,r2,done ++ [y],vs ++ [v3],rfl,((bt.trans b2).trans b3).updn nlH,R3.updn nlT nlr,by omega,rfl,jd,?_,?_,?_⟩
    ·show vs.length < 2 ^ 24;omega
    ·rw [List.map_append];exact Paired.snoc pr lf3
    ·rw [List.length_append,List.length_singleton];omega
    ·have aa:a0 D X rd H Q E jji ((more fu r2 >>= λp=>pure (y::p.1,p.2)) >>= λp=>pure (done ++ p.1,p.2)):=aa;cases hm:more fu r2 with
     | error z=>rw [hm] at aa;exact aa
     | ok p =>
      rw [hm] at aa;have aa:a0 D X rd H Q E jji (Except.ok (done ++ y::p.1,p.2)):=aa
      show a0 D X rd H Q E jji (Except.ok ((done ++ [y]) ++ p.1,p.2));rw [List.append_assoc];exact aa
 ·have c:¬ jq rs' = ",":=λz=>c (dt_ (by rw [z]));have e:more fu rs' = .ok ([],rs'):=by
   cases fu with
   | zero=>exact L.zero rs'
   | succ fu=>rw [L.succ,jaz R'.wfr,df_ c,if_neg Bool.false_ne_true]
  rw [e] at aa;have aa:a0 D X rd H Q E jji (Except.ok (done ++ [],rs')):=aa
  rw [List.append_nil] at aa;exact ⟨_,rfl,aa _ _ bt R' ⟨l,vs,rfl,j_ nlT nlH hl,by omega,Paired.mapP pr λ_ _ z=>qo.same jbs z⟩⟩
end
open Vanbka (opOf opNext)
def vi:List (Str×Int):=[("or",1),("and",2),("==",4),("!=",4),("<",4),("<=",4),(">",4),(">=",4),("++",5),("+",6),("-",6),("*",7),("/",7),("percent",7)]
def je0(k:Nat)(z:Str):Option Op->Bool
 | some o=>decide (vi.lookup z=some (k:Int)) && decide (z=opK o)
 | none=>decide (¬ vi.lookup z=some (k:Int))
theorem jpk:∀ l∈jai,∀ k:Fin 8,je0 k.val (jy l) (opOf k.val l)=true:=by decide +kernel
theorem jns{k:Nat}(hk:k < 8){rs:List Vanbka.Tok}(h:bc rs):je0 k (jq rs) (opNext k rs)=true:=by
 cases rs with
 | nil =>
  have:∀ k:Fin 8,je0 k.val "END" none=true:=by decide +kernel
  exact this ⟨k,hk⟩
 | cons t r =>
  show je0 k (jy t.lex) (opOf k t.lex)=true;rcases jab (h t (.head _)) with z | ⟨x,e,z⟩ | ⟨n,e⟩ | ⟨x,e⟩
  ·exact jpk _ z ⟨k,hk⟩
  ·rw [e,zr z];have n1:(x == b "or")=false:=by
    refine beq_eq_false_iff_ne.mpr λy=>?_;rw [y] at z;exact absurd z (by decide +kernel)
   have n2:(x == b "and")=false:=by
    refine beq_eq_false_iff_ne.mpr λy=>?_;rw [y] at z;exact absurd z (by decide +kernel)
   have:opOf k (.word x)=none:=by
    unfold opOf;split
    ·rename_i e2;cases e2;rw [n1];rfl
    ·rename_i e2;cases e2;rw [n2];rfl
    all_goals first | rfl | (rename_i e2;cases e2)
   rw [this];have:∀ k:Fin 8,je0 k.val "NAME" none=true:=by decide +kernel
   exact this ⟨k,hk⟩
  ·rw [e];have:opOf k (.num n)=none:=by
    unfold opOf;split <;> first | rfl | (rename_i e2;cases e2)
   rw [this];have:∀ k:Fin 8,je0 k.val "NUMBER" none=true:=by decide +kernel
   exact this ⟨k,hk⟩
  ·rw [e];have:opOf k (.quoted x)=none:=by
    unfold opOf;split <;> first | rfl | (rename_i e2;cases e2)
   rw [this];have:∀ k:Fin 8,je0 k.val "QUOTED" none=true:=by decide +kernel
   exact this ⟨k,hk⟩
section
variable{P:Program}{w:World}{K:W.Frag}{mg:Str->Option Value}{base:Heap}{f:Addr}{fd:FuncData}{D:Ad}
def jf9(w:World)(K:W.Frag)(mg:Str->Option Value):Prop:=∃ a ae,mg "SIDES"=some (.ref a)/\jct w K a ae/\∀ z:Str,match vi.lookup z with
 | none=>zf ae (.inr z)=none
 | some i=>∃ t u v,zf ae (.inr z)=some (.ref t)/\∀ H,be K H t [.int i,u,v]
def jfx:Sp:=λvs H Q _=>∃ z i,vs=[.str z,.int i]/\Q (.bl (decide (vi.lookup z=some i))) H
theorem jzp:jv ["kind", "strength"] ["kind", "strength"] (jj jje):=fs_
theorem jxm(F:Fun K "joins_at" "joins_at" jje f fd)(S:jf9 w K mg):xb P w K mg base (CXF P w) 1 f fd ["kind", "strength"] jfx:=by
 refine F.okF (k:=0) jzp (λvs H Q E h=>?_) (λac A outer s H vs Q E hr h=>?_)
 ·obtain ⟨z,i,rfl,_⟩:=h;rfl
 obtain ⟨z,i,rfl,q⟩:=h;obtain ⟨a,ae,mS,dS,tS⟩:=S;refine ⟨_,je (jp (j2e (jim jhz (pv 0) (vc mS rfl) rfl) (jus (jim xi (xp jkt (jc1 (vc mS rfl) (pv 0) (λ_ _=>rfl)) qe (λ_ _=>rfl)) (pv 1) (j9 _))))),?_⟩;have t:=tS z
 refine ⟨_,rfl,a,ae,.inr z,rfl,dS,rfl,?_⟩;cases e:vi.lookup z with
 | none =>
  rw [e] at t q;rw [t];refine ⟨_,rfl,qd (λc=>absurd c (by decide)) (λ_=>q)⟩
 | some j =>
  rw [e] at t q;obtain ⟨tt,u,v,ev,sq⟩:=t;rw [ev];refine ⟨_,rfl,qd (λ_=>?_) (λc=>absurd rfl c)⟩;refine ⟨_,rfl,a,ae,.inr z,_,rfl,dS,rfl,ev,tt,_,_,_,rfl,rfl,sq _,rfl,_,rfl,rfl,?_⟩;have:decide (V.int j=V.int i)=decide (some j=some i):=by
   apply decide_eq_decide.mpr;constructor
   ·intro h;injection h with h;rw [h]
   ·intro h;injection h with h;rw [h]
  rw [this];exact q
end
abbrev qb:=List Vanbka.Tok
abbrev je7:PySem.Stmt:=top 35
abbrev jdf:PySem.Stmt:=top 37
abbrev jdc:PySem.Stmt:=top 38
abbrev jck:PySem.Stmt:=top 39
def a9{α:Type}(D:Ad)(r N h:Nat)(xs:List V)(G:qb->Prop)(F:Nat->qb->Except Nat (α×qb))(rep:Hp->α->V->Prop):Sp:=λvs H Q E =>
 ∃ X rd rs n,n<=N/\vs = .ref rd::xs/\Pre D X rd H rs h n r/\G rs/\a0 D X rd H Q E rep (F n rs)
abbrev Any:qb->Prop:=λ_=>True
def v9(z:Str)(n:Nat)(rs:qb):Except Nat (Stmts×qb):=do
 let (s,r) <- Vanbka.statements n rs
 if jq r=z then return (s,r) else halt_ r
structure vg(P:Program)(w:World)(K:W.Frag)(mg:Str->Option Value)(base:Heap)(D:Ad)(N:Nat):Prop where
 expr:∀ h,ax P w K mg base (xy h 21) "read_expression" ["reader"] (a9 D 11 N h [] Any Vanbka.expr (ql D))
 line:∀ h k,1<=k->k<=8->ax P w K mg base (xy h (21 - k)) "read_joined" ["reader", "strength"] (a9 D (11 - k) N h [.int (k:Nat)] Any (λn=>Vanbka.line n k) (ql D))
 reached:∀ h,ax P w K mg base (xy h 11) "read_reached" ["reader"] (a9 D 2 N h [] Any (λn=>Vanbka.line n 9) (ql D))
 simple:∀ h,ax P w K mg base (xy h 10) "read_simple" ["reader"] (a9 D 1 N h [] Any Vanbka.simple (ql D))
 block:∀ h,ax P w K mg base (xy h 8) "read_block" ["reader"] (a9 D 1 N h [] Any Vanbka.block (yy D))
 stmts:∀ (h:Nat) (z:Str),z = "END"\/z = "}"->ax P w K mg base (xy h 24) "read_statements" ["reader", "closing"] (a9 D 2 N h [.str z] Any (v9 z) (yy D))
 stmt:∀ h,ax P w K mg base (xy h 23) "read_statement" ["reader"] (a9 D 1 N h [] Any Vanbka.statement (yj D))
theorem xq{h a c:Nat}(hh:h<=24)(l:a<=c):xy h a<=20 * (24 - h) + c:=by unfold xy;rw [if_pos hh];omega
theorem je9{h a c:Nat}(hh:h<=24)(l:a<=c + 20):xy (h + 1) a<=20 * (24 - h) + c:=by
 unfold xy;by_cases z:h + 1<=24
 ·rw [if_pos z];omega
 ·rw [if_neg z];omega
theorem wo{a z:Str}(h:decide (V.str a=V.str z)=true):a=z:=by have:=ot_ h;injection this
theorem jac{a z:Str}(h:¬ decide (V.str a=V.str z)=true):¬ a=z:=λe=>h (dt_ (by rw [e]))
theorem jnn{a z:Str}(h:(!decide (V.str a=V.str z))=true):¬ a=z:=λe=>by
 rw [dt_ (show V.str a=V.str z by rw [e])] at h;cases h
theorem jno{a z:Str}(h:¬ (!decide (V.str a=V.str z))=true):a=z:=by
 have:decide (V.str a=V.str z)=true:=by simpa using h
 exact wo this
theorem zk{P:Program}{w:World}{K:W.Frag}{mg:Str->Option Value}{base:Heap}{x:Str}{ps N:List Str}{st:PySem.Stmt}{sp:Sp}{h r:Nat}(Kn:jr K mg x ps st)(S:jv N ps (jj st))(len:∀ vs H Q E,sp vs H Q E->vs.length=ps.length)
  (hle:∀ vs H Q E,sp vs H Q E->h<=24)
  (body:h<=24->∀ (f:Addr) (ac:Value) (A:Around) (outer:List Env) (s:Shared) (H:Hp) (vs:List V) (Q:VK) (E:XK),xw (20 * (24 - h) + r) (A.deeper (PyProof.Rows.envOfC x (jj st) s.heap.objs.size f ac))->sp vs H Q E->
   ∃ t,PSs (xt (CXF P w) P w K mg base N x (jj st) f ac A outer s H E) (z9 st) t/\t { nx:=λ_ H'=>Q .non H',rt:=Q } (jc9 N vs) H):ax P w K mg base (xy h (r + 1)) x ps sp:=by
 obtain ⟨f,fd,F,bi,kp,m⟩:=Kn;refine ⟨f,fd,?_,bi,kp,m⟩;by_cases z:h<=24
 ·have e:xy h (r + 1)=(20 * (24 - h) + r) + 1:=by unfold xy;rw [if_pos z];omega
  rw [e];exact F.okF S len (λac A outer s H vs Q E hr hs=>body z f ac A outer s H vs Q E hr hs)
 ·exact ⟨len,λA outer s H args us vs Q E hr he hb hv hs=>absurd (hle _ _ _ _ hs) z⟩
section
variable{P:Program}{w:World}{K:W.Frag}{mg:Str->Option Value}{base:Heap}{D:Ad}{N:Nat}
theorem a9.len{α:Type}{r h:Nat}{xs:List V}{G:qb->Prop}{F:Nat->qb->Except Nat (α×qb)}{rep:Hp->α->V->Prop}{vs:List V}{H:Hp}{Q:VK}{E:XK}(q:a9 D r N h xs G F rep vs H Q E):vs.length=xs.length + 1:=by
 obtain ⟨X,rd,rs,n,_,rfl,_⟩:=q;rfl
theorem a9.le{α:Type}{r h:Nat}{xs:List V}{G:qb->Prop}{F:Nat->qb->Except Nat (α×qb)}{rep:Hp->α->V->Prop}{vs:List V}{H:Hp}{Q:VK}{E:XK}(q:a9 D r N h xs G F rep vs H Q E):h<=24:=by
 obtain ⟨X,rd,rs,n,_,rfl,p,_⟩:=q;exact p.le
theorem yl{α:Type}{x:Except Nat (α×qb)}{ts r:qb}{z:Int}{m:Nat}{a:α}(h:Cell.Res x ts z m)(e:x = .ok (a,r)):Cell.Con ts r z m:=by rw [e] at h;exact h
theorem vm{x:Except Nat qb}{ts r:qb}{z:Int}{m:Nat}(h:Cell.zc x ts z m)(e:x = .ok r):Cell.Con ts r z m:=by rw [e] at h;exact h
theorem dp0{h:Nat}{ts r:qb}{m:Nat}(c:Cell.Con ts r 0 m)(q:tooDeepAt (h:Int) ts=none):tooDeepAt (h:Int) r=none:=by
 have:=c.deep q
 rwa [Int.add_zero] at this
theorem dp1{h:Nat}{ts r:qb}{m:Nat}(c:Cell.Con ts r 1 m)(q:tooDeepAt (h:Int) ts=none):tooDeepAt ((h + 1:Nat):Int) r=none:=by
 have:=c.deep q
 rwa [show (h:Int) + 1=((h + 1:Nat):Int) by omega] at this
theorem jd2{T H H1:Hp}{Q:Addr->Hp->Prop}{E:XK}{k:Str}{l1 l2 l3:Addr}{ah af ag:List V}{ls:List x8}{ps:List jw}{bs:List (List jw)}(gr:∀ b,H1 b=none->H b=none)(st:jg T H1)
  (n1:H1 l1=none) (n2:upd H1 l1 (.lst ah) l2=none) (n3:upd (upd H1 l1 (.lst ah)) l2 (.lst af) l3=none) (sz:ah.length<=1000/\af.length<=1000/\ag.length<=1000)
  (hl:Paired (qo (ay T H H1)) ls ah) (hp:ji D.CN (ay T H H1) ps af) (hb:qr D.CN (ay T H H1) bs ag) (q:∀ x H2,jg H1 H2->jz D.CN (ay T H H2) (.mk k ls ps bs) (.ref x)->Q x H2) :
  ∀ x dx,upd (upd (upd H1 l1 (.lst ah)) l2 (.lst af)) l3 (.lst ag) x=none->upd (upd (upd H1 l1 (.lst ah)) l2 (.lst af)) l3 (.lst ag) dx=none->dx≠x->
   jgg D.CN [.ref x,.str k,.ref l1,.ref l2,.ref l3] (upd (upd (upd (upd (upd H1 l1 (.lst ah)) l2 (.lst af)) l3 (.lst ag)) dx (.own x)) x (.ins D.CN dx [])) (λv H2=>v = .non/\Q x H2) E:=by
 have s1:jg H1 (upd H1 l1 (.lst ah)):=jo n1 _;have s2:jg (upd H1 l1 (.lst ah)) (upd (upd H1 l1 (.lst ah)) l2 (.lst af)):=jo n2 _
 have s3:jg (upd (upd H1 l1 (.lst ah)) l2 (.lst af)) (upd (upd (upd H1 l1 (.lst ah)) l2 (.lst af)) l3 (.lst ag)):=jo n3 _;have s:=(s1.trans s2).trans s3
 have g:jg (ay T H H1) (ay T H (upd (upd (upd H1 l1 (.lst ah)) l2 (.lst af)) l3 (.lst ag))):=xg s;refine yu (ls:=ls) (ps:=ps) (bs:=bs) (λb z=>gr b (jk s z)) (st.trans s) (j_ (jk st n1) (gr _ n1) ((s2.trans s3) _ _ jd)) (j_ (jk (st.trans s1) n2) (gr _ (jk s1 n2)) (s3 _ _ jd)) (j_ (jk (st.trans (s1.trans s2)) n3) (gr _ (jk (s1.trans s2) n3)) jd) sz
  (Paired.mapP hl λ_ _ z=>z.same g) (hp.same g) (hb.same g) λx H2 sm nd=>q x H2 (s.trans sm) nd
theorem zt{CN:Addr}{H:Hp}:qr CN H [] []:=rfl
theorem jbe{CN:Addr}{H:Hp}:ji CN H [] []:=rfl
theorem wj{CN:Addr}{H:Hp}{x:jw}{v:V}(h:jz CN H x v):ji CN H [x] [v]:=⟨v,[],rfl,h,rfl⟩
theorem jcp{CN:Addr}{H:Hp}{x:jw}{v:V}{l:List jw}{vs:List V}(h:jz CN H x v)(t:ji CN H l vs):ji CN H (x::l) (v::vs):=⟨v,vs,rfl,h,t⟩
theorem juh:jv ["reader", "condition", "first", "second"] ["reader"] (jj je7):=fs_
theorem j0k(Kn:jr K mg "read_expression" ["reader"] je7)(B:z_ P w K mg base D)(I:vg P w K mg base D N)(h:Nat):ax P w K mg base (xy h 21) "read_expression" ["reader"] (a9 D 11 (N + 1) h [] Any Vanbka.expr (ql D)):=by
 refine zk Kn juh (λ_ _ _ _ q=>q.len) (λ_ _ _ _ q=>q.le) λhh f ac A outer s H vs Q E hr q=>?_;obtain ⟨X,rd,rs,n,hn,rfl,pre,_,aa⟩:=q;obtain ⟨R,dp,_,fu,sz⟩:=pre;have cl:=B.rd.c.cl
 have nd:=juh.nd;have J:=I.line h 1 (Nat.le_refl _) (by decide)
 have r3:xw 3 _:=hr.mono (by omega);refine ⟨_,(jc (ju (i:=1) nd rfl (Or.inl rfl) (jh J hr rfl (ja (pv 0) (ja (qz B.cOr rfl) jb)) (xq hh (by decide))))
   (jc (qi (js jea (xf B.look cl r3 (pv 0)) jf (j9 _)) (je (jp (pv 1))) j3)
   (jc (j6 (qg B.take cl r3 (pv 0) (ja jf jb)))
   (jc (ju (i:=2) nd rfl (Or.inl rfl) (jh J hr rfl (ja (pv 0) (ja (qz B.cOr rfl) jb)) (xq hh (by decide))))
   (jc (j6 (qg B.take cl r3 (pv 0) (ja jf jb)))
   (jc (ju (i:=3) nd rfl (Or.inl rfl) (jh J hr rfl (ja (pv 0) (ja (qz B.cOr rfl) jb)) (xq hh (by decide))))
   (je (jp (yp B r3 rfl (ja jf (ja (j5 jb) (ja (j5 (ja (pv 1) (ja (pv 2) (ja (pv 3) jb)))) (ja (j5 jb) jb))))))))))))),?_⟩
 cases n with
 | zero=>omega
 | succ n =>
  rw [Vanbka.expr] at aa;refine ⟨_,rfl,X,rd,rs,n,by omega,rfl,⟨R,dp,hh,by omega,sz⟩,trivial,q_ aa λc r he aa v H1 b1 R1 n1=>?_⟩;dsimp only at aa;have C1:=yl ((Cell.jae n).line 1 rs) he
  refine zj R1 ⟨rfl,_,rfl,qd (λk1=>?_) (λk1=>?_)⟩
  ·rw [nxQ R1.wfr,df_ (jnn k1),if_neg Bool.false_ne_true] at aa;exact ⟨_,rfl,aa _ _ b1 R1 n1⟩
  ·have k1:=jno k1;rw [nxQ R1.wfr,dt_ k1,if_pos rfl] at aa;obtain ⟨t,r',e1,e2,_⟩:=yw k1 (by decide);have jh1:r.length=r'.length + 1:=by rw [e1];rfl
   have C2:Cell.Con r (r.drop 1) 0 1:=Cell.x6 (s := "?") (by rw [nxQ R1.wfr];exact dt_ k1);rw [e2] at aa C2;refine zi R1 k1 λ_ H2 b2 R2 _=>?_;rw [e2] at R2;have lC1:=C1.len
   have ao:=b1.trans b2;refine ⟨_,rfl,X,rd,r',n,by omega,rfl,⟨R2,dp0 C2 (dp0 C1 dp),hh,by omega,sz⟩,trivial,q_ aa λx r3 he3 aa v3 H3 b3 R3 n3=>?_⟩;dsimp only at aa;have C3:=yl ((Cell.jae n).line 1 r') he3
   have lC3:=C3.len;refine y9 R3 (jem R3.wfr) (x_ aa λr4 he4 aa _ H4 b4 R4=>?_);have C4:=vm Cell.qt he4
   have lC4:=C4.len;have b04:=(ao.trans b3).trans b4
   refine ⟨_,rfl,X,rd,r4,n,by omega,rfl,⟨R4,dp0 C4 (dp0 C3 (dp0 C2 (dp0 C1 dp))),hh,by omega,sz⟩,trivial,q_ aa λy r5 he5 aa v5 H5 b5 R5 n5=>?_⟩;dsimp only at aa;have aq:=b04.trans b5
   have g1:jg (ay X.T H H1) (ay X.T H H5):=xz R (b2.trans (b3.trans (b4.trans b5)));have g3:jg (ay X.T H2 H3) (ay X.T H H5):=(yf ao R2).trans (xz R (b4.trans b5))
   have g5:jg (ay X.T H4 H5) (ay X.T H H5):=yf b04 R4;refine ⟨by decide,λl1 m1=>⟨_,rfl,_,rfl,_,rfl,(by show 3<=2 ^ 24;decide),λl2 m2=>⟨by decide,λl3 m3=>?_⟩⟩⟩;exact jd2 (xc aq R5) R5.st m1 m2 m3 ⟨by decide,(by show 3<=1000;decide),by decide⟩ .nil (jcp (jz.same g1 _ _ n1) (jcp (jz.same g3 _ _ n3) (wj (jz.same g5 _ _ n5)))) zt λz H9 sm nd=>aa _ _ (aq.then sm) (R5.same sm) nd
end
open Vanbka (chain line)
def jb0(k n:Nat)(x:Vanbka.Expr)(r:qb):Except Nat (Vanbka.Expr×qb) :=
 if k=3 then .ok (x,r) else if k=4 then (match opNext 4 r with
  | some o=>line n 5 (r.drop 1) >>= λp=>pure (.bin o x p.1,p.2)
  | none=>.ok (x,r)) else chain n k x r
theorem jvg{n k:Nat}{ts:qb}(h1:k<=7)(h2:¬ (k=3/\next (isWord "not") ts=true)):line (n + 1) k ts=line n (k + 1) ts >>= λp=>jb0 k n p.1 p.2:=by
 rw [line];by_cases e3:k=3
 ·subst e3;have n2:¬ next (isWord "not") ts=true:=λz=>h2 ⟨rfl,z⟩
  rw [if_pos (show (3 == 3)=true from rfl),if_neg n2];cases line n 4 ts <;> rfl
 rw [if_neg (by simpa using e3)];by_cases e4:k=4
 ·subst e4;rw [if_pos (show (4 == 4)=true from rfl)];cases line n 5 ts with
  | error l=>rfl
  | ok p =>
   obtain ⟨x,r⟩:=p;show _=jb0 4 n x r
   unfold jb0;rw [if_neg (by decide),if_pos rfl];rfl
 rw [if_neg (by simpa using e4),if_neg (by simpa using (show k≠8 by omega)),if_neg (by simpa using (show k≠9 by omega))];have:∀ x r,jb0 k n x r=chain n k x r:=λx r=>by unfold jb0;rw [if_neg e3,if_neg e4]
 simp only [this]
theorem jtu{k n:Nat}{x:Vanbka.Expr}{r:qb}(hn:0 < n)(h:opNext k r=none):jb0 k n x r = .ok (x,r):=by
 unfold jb0;by_cases e3:k=3
 ·rw [if_pos e3]
 rw [if_neg e3];by_cases e4:k=4
 ·subst e4;rw [if_pos rfl,h]
 rw [if_neg e4];cases n with
 | zero=>omega
 | succ n=>rw [chain,h]
theorem jzg{k n:Nat}{x:Vanbka.Expr}{t:Vanbka.Tok}{r:qb}{o:Op}(hn:0 < n)(n3:k≠3)(h:opNext k (t::r)=some o) :
  jb0 k n x (t::r)=line (if k=4 then n else n - 1) (k + 1) r >>= λp=>if k=4 then .ok (.bin o x p.1,p.2) else jb0 k (n - 1) (.bin o x p.1) p.2:=by
 unfold jb0;rw [if_neg n3];by_cases e4:k=4
 ·subst e4;rw [if_pos rfl,h,if_pos rfl];rfl
 rw [if_neg e4,if_neg e4];cases n with
 | zero=>omega
 | succ n =>
  rw [chain,h];simp only [Nat.add_sub_cancel,List.drop_one,List.tail_cons];cases line n (k + 1) r with
  | error l=>rfl
  | ok p =>
   show chain n k (.bin o x p.1) p.2=if k=4 then _ else _
   rw [if_neg e4,if_neg n3,if_neg e4]
theorem op3(r:qb):opNext 3 r=none:=by
 cases r with
 | nil=>rfl
 | cons t r=>rfl
theorem je2{P:Program}{w:World}{K:W.Frag}{mg:Str->Option Value}{base:Heap}{x:Str}{ps:List Str}{st:PySem.Stmt}(Kn:jr K mg x ps st):ax P w K mg base 0 x ps (λ_ _ _ _=>False):=by
 obtain ⟨f,fd,F,bi,kp,m⟩:=Kn;exact ⟨f,fd,⟨λ_ _ _ _ z=>z.elim,λ_ _ _ _ _ _ _ _ _ _ _ _ _ z=>z.elim⟩,bi,kp,m⟩
section
variable{P:Program}{w:World}{K:W.Frag}{mg:Str->Option Value}{base:Heap}{D:Ad}{N:Nat}
theorem jn4:jv ["reader", "strength", "tree", "sign", "right"] ["reader", "strength"] (jj jdf):=fs_
theorem jgx{h k j4 jn:Nat}{sp4 spn:Sp}(Kn:jr K mg "read_joined" ["reader", "strength"] jdf)(B:z_ P w K mg base D)(Jo:ax P w K mg base 1 "joins_at" ["kind", "strength"] jfx)(k1:1<=k)(k8:k<=8)
  {j8:Nat} {sp8:Sp} (G8:ax P w K mg base j8 "read_signed" ["reader"] sp8) (e8:k=8->sp8=a9 D 3 (N + 1) h [] Any (λn=>line n 8) (ql D)) (h8:j8<=20 * (24 - h) + (20 - k))
  (J4:ax P w K mg base j4 "read_joined" ["reader", "strength"] sp4) (e4:k<=3->sp4=a9 D 7 N h [.int (4:Nat)] Any (λn=>line n 4) (ql D)) (h4:j4<=20 * (24 - h) + (20 - k))
  (Jn:ax P w K mg base jn "read_joined" ["reader", "strength"] spn) (en:k<=7->spn=a9 D (11 - (k + 1)) N h [.int ((k + 1:Nat):Int)] Any (λn=>line n (k + 1)) (ql D)) (hn4:jn<=20 * (24 - h) + (20 - k)) :
  ax P w K mg base (xy h (20 - k + 1)) "read_joined" ["reader", "strength"] (a9 D (11 - k) (N + 1) h [.int (k:Nat)] Any (λn=>line n k) (ql D)):=by
 refine zk Kn jn4 (λ_ _ _ _ q=>q.len) (λ_ _ _ _ q=>q.le) λhh f ac A outer s H vs Q E hr q=>?_;obtain ⟨X,rd,rs,n,hn,rfl,pre,_,aa⟩:=q;obtain ⟨R,dp,_,fu,sz⟩:=pre;have cl:=B.rd.c.cl
 have nd:=jn4.nd;have r3:xw 3 _:=hr.mono (by omega)
 refine ⟨_,(jc (qi (js xi (pv 1) (qz B.cSig rfl) (j9 _)) (je (jp (jh G8 hr rfl (ja (pv 0) jb) (h8)))) j3)
   (jc (qi (PW.pt (jcn (js xi (pv 1) (qz B.cNot rfl) (j9 _)) (jb_ (js xi (xf B.look cl r3 (pv 0)) jf (j9 _))))) (jc (j6 (qg B.take cl r3 (pv 0) (ja jf jb)))
   (je (jp (yp B r3 rfl (ja jf (ja (j5 jb) (ja (j5 (ja (jh J4 hr rfl (ja (pv 0) (ja (qz B.cCmp rfl) jb)) (h4)) jb)) (ja (j5 jb) jb)))))))) j3)
   (jc (ju (i:=2) nd rfl (Or.inl rfl) (jh Jn hr rfl (ja (pv 0) (ja (qa jbx (pv 1) qe) jb)) (hn4)))
   (jc (z6 jad (jez (jh Jo r3 rfl (ja (xf B.look cl r3 (pv 0)) (ja (pv 1) jb)))) (jc (ju (i:=3) nd rfl (Or.inl rfl) (xf B.move cl r3 (pv 0)))
   (jc (ju (i:=4) nd rfl (Or.inl rfl) (jh Jn hr rfl (ja (pv 0) (ja (qa jbx (pv 1) qe) jb)) (hn4)))
   (jc (ju (i:=2) nd rfl (Or.inl rfl) (yp B r3 rfl (ja (pv 3) (ja (j5 jb) (ja (j5 (ja (pv 2) (ja (pv 4) jb))) (ja (j5 jb) jb))))))
   (je (qi (js xi (pv 1) (qz B.cCmp rfl) (j9 _)) (je (jp (pv 2))) j3))))))
   (je (jp (pv 2))))))),?_⟩
 have aa:a0 D X rd H Q E (ql D) (line n k rs):=aa;cases n with
 | zero=>omega
 | succ n =>
  refine ⟨_,rfl,rfl,_,rfl,qd (λc8=>?_) (λc8=>?_)⟩
  ·have c8:k=8:=by
    have:=ot_ c8;injection this with this;omega
   subst c8;rw [e8 rfl];exact ⟨_,rfl,X,rd,rs,n + 1,hn,rfl,⟨R,dp,hh,by omega,sz⟩,trivial,aa⟩
  have k7:k<=7:=by
   have:¬ k=8:=λz=>c8 (dt_ (by rw [z];rfl));omega
  rw [en k7];refine (λ(fin:¬ (k=3/\next (isWord "not") rs=true)->?A)=>?main) ?fin
  case main =>
   refine ⟨_,rfl,rfl,_,rfl,qd (λc3=>?_) (λc3=>?_)⟩
   ·have c3:k=3:=by
     have:=ot_ c3;injection this with this;omega
    refine zj R ⟨rfl,_,rfl,qd (λc=>?_) (λc=>?_)⟩
    ·have c:=wo c;rw [e4 (by omega)];subst c3;obtain ⟨t,r',e1,e2,_⟩:=yw c (by decide);have jh1:rs.length=r'.length + 1:=by rw [e1];rfl
     have nx:next (isWord "not") rs=true:=by rw [ju6 R.wfr];exact dt_ c
     have C1:=Cell.yi nx;rw [line,if_pos (show (3 == 3)=true from rfl),if_pos nx,e2] at aa;rw [e2] at C1;refine zi R c λ_ H1 b1 R1 _=>?_;rw [e2] at R1;refine ⟨by decide,λl1 m1=>?_⟩;have m1T:=ze R1.st m1
     have m1r:=R1.ne m1;have m1H:=xc b1 R1 l1 m1
     have R2:a8 D X rd (upd H1 l1 (.lst [])) r':=R1.same (jo m1 _);have b2:a7 rd H (upd H1 l1 (.lst [])):=b1.then (jo m1 _)
     refine ⟨_,rfl,X,rd,r',n,by omega,rfl,⟨R2,dp0 C1 dp,hh,by omega,sz⟩,trivial,q_ aa λe r he aa v H3 b3 R3 n3=>?_⟩;refine ⟨(by show 1<=2 ^ 24;decide),λl2 m2=>⟨by decide,λl3 m3=>?_⟩⟩;have ap:=b2.trans b3
     have s1:jg H3 (upd H3 l2 (.lst [v])):=jo m2 _;have s2:jg (upd H3 l2 (.lst [v])) (upd (upd H3 l2 (.lst [v])) l3 (.lst [])):=jo m3 _
     have gr:=xc ap R3;have g:jg (ay X.T (upd H1 l1 (.lst [])) H3) (ay X.T H (upd (upd H3 l2 (.lst [v])) l3 (.lst []))):=(yf b2 R2).trans (xg (s1.trans s2))
     refine yu (ls:=[]) (ps:=[jx e]) (bs:=[]) (λb z=>gr b (jk (s1.trans s2) z)) (R3.st.trans (s1.trans s2)) (j_ m1T m1H ((s1.trans s2) _ _ (b3 _ _ jd m1r))) (j_ (jk R3.st m2) (gr _ m2) (s2 _ _ jd))
      (j_ (jk (R3.st.trans s1) m3) (gr _ (jk s1 m3)) jd) ⟨by decide,(by show 1<=1000;decide),by decide⟩ .nil (wj (jz.same g _ _ n3)) zt λx H9 sm nd=>?_
     exact aa _ _ (ap.then ((s1.trans s2).trans sm)) (R3.same ((s1.trans s2).trans sm)) nd
    ·refine fin λz=>?_;rw [ju6 R.wfr] at z;exact jac c (ot_ z.2)
   ·refine qd (λz=>absurd z (by decide)) (λ_=>?_);exact fin λz=>c3 (dt_ (by rw [z.1];rfl))
  case fin =>
   intro nn;rw [jvg k7 nn] at aa;refine ⟨_,rfl,_,rfl,_,_,rfl,rfl,X,rd,rs,n,by omega,rfl,⟨R,dp,hh,by omega,sz⟩,trivial,q_ aa λx r he aa v H1 b1 R1 n1=>?_⟩;have he:line n (k + 1) rs = .ok (x,r):=he
   have C1:=yl ((Cell.jae n).line (k + 1) rs) he;have lC1:=C1.len
   refine ⟨λm σ H'=>∃ (g:Nat) (x:Vanbka.Expr) (r:qb) (v:V) (v3 v4:Option V),σ=[some (.ref rd),some (.int (k:Nat)),some v,v3,v4]/\a7 rd H H'/\a8 D X rd H' r/\tooDeepAt (h:Int) r=none/\16 * r.length + 10<=g/\g<=N/\m=r.length/\ql D (ay X.T H H') x v/\a0 D X rd H Q E (ql D) (jb0 k g x r),
    ⟨_,n,x,r,v,none,none,rfl,b1,R1,dp0 C1 dp,by omega,by omega,rfl,n1,aa⟩,?_⟩
   clear aa n1 b1 R1 C1 lC1 he;rintro m σ H' ⟨g,x,r,v,v3,v4,rfl,bt,R',dp',fg,gN,rfl,nx,aa⟩;refine zj R' ⟨_,rfl,_,_,rfl,_,rfl,qd (λc=>?_) (λc=>?_)⟩
   ·have c:=ot_ c;have fits:=jns (show k < 8 by omega) R'.wfr
    cases ho:opNext k r with
    | none =>
     rw [ho] at fits;exact absurd c (ot_ fits)
    | some o =>
     rw [ho] at fits;have hK:jq r=opK o:=ot_ (Bool.and_eq_true_iff.mp fits).2
     cases r with
     | nil=>cases ho
     | cons t r =>
      have C2:Cell.Con (t::r) r 0 1:=Cell.jo3 ho;refine ⟨λσ' H2=>∃ m',m' < (t::r).length/\∃ (g:Nat) (x:Vanbka.Expr) (r:qb) (v:V) (v3 v4:Option V),σ'=[some (.ref rd),some (.int (k:Nat)),some v,v3,v4]/\a7 rd H H2/\a8 D X rd H2 r/\tooDeepAt (h:Int) r=none/\16 * r.length + 10<=g/\g<=N/\m'=r.length/\ql D (ay X.T H H2) x v/\a0 D X rd H Q E (ql D) (jb0 k g x r),λ_ _ z=>z,?_⟩;refine jf4 R' λH2 b2 R2=>?_;have hK:jy t.lex=opK o:=hK
      have ao:=bt.trans b2;have lr:(t::r).length=r.length + 1:=rfl
      have n3:k≠3:=λz=>by rw [z,op3] at ho;cases ho
      rw [jzg (by omega) n3 ho] at aa;have gg1:16 * r.length + (11 - (k + 1))<=(if k=4 then g else g - 1):=by split <;> omega
      have gg2:(if k=4 then g else g - 1)<=N:=by split <;> omega
      refine ⟨_,rfl,_,rfl,_,_,rfl,rfl,X,rd,r,_,gg2,rfl,⟨R2,dp0 C2 dp',hh,gg1,sz⟩,trivial,q_ aa λy r5 he5 aa v5 H5 b5 R5 n5=>?_⟩;have C5:=yl ((Cell.jae _).line (k + 1) r) he5
      have lC5:=C5.len;have aq:=ao.trans b5
      have g1:jg (ay X.T H H') (ay X.T H H5):=xz R (b2.trans b5);have g5:jg (ay X.T H2 H5) (ay X.T H H5):=yf ao R2
      refine ⟨_,rfl,by decide,λl1 m1=>⟨_,rfl,_,rfl,(by show 2<=2 ^ 24;decide),λl2 m2=>⟨by decide,λl3 m3=>?_⟩⟩⟩;refine jd2 (xc aq R5) R5.st m1 m2 m3 ⟨by decide,(by show 2<=1000;decide),by decide⟩ .nil (jcp (jz.same g1 _ _ nx) (wj (jz.same g5 _ _ n5))) zt λz H9 sm nd=>?_;rw [hK] at nd;refine ⟨_,rfl,rfl,_,rfl,qd (λc4=>?_) (λc4=>?_)⟩
      ·have c4:k=4:=by
        have:=ot_ c4;injection this with this;omega
       dsimp only at aa;rw [if_pos c4] at aa;exact ⟨_,rfl,aa _ _ (aq.then sm) (R5.same sm) nd⟩
      ·have c4:¬ k=4:=λz=>c4 (dt_ (by rw [z];rfl));dsimp only at aa;rw [if_neg c4] at aa;exact ⟨r5.length,by omega,g - 1,.bin o x y,r5,.ref z,_,_,rfl,aq.then sm,R5.same sm,dp0 C5 (dp0 C2 dp'),by omega,by omega,rfl,nd,aa⟩
   ·have c:¬ vi.lookup (jq r)=some (k:Int):=λz=>c (dt_ z);have fits:=jns (show k < 8 by omega) R'.wfr
    have ho:opNext k r=none:=by
     cases ho:opNext k r with
     | none=>rfl
     | some o =>
      rw [ho] at fits;exact absurd (ot_ (Bool.and_eq_true_iff.mp fits).1) c
    rw [jtu (by omega) ho] at aa;exact ⟨_,rfl,aa _ _ bt R' nx⟩
end
open Vanbka (simple reach listed more fields parts inBrackets function block statements statement)
abbrev jd8:PySem.Stmt:=top 40
abbrev jde:PySem.Stmt:=top 41
theorem jkd{h a c:Nat}(l:a<=c):xy h a<=20 * (24 - h) + c:=by
 unfold xy;by_cases z:h<=24
 ·rw [if_pos z];omega
 ·rw [if_neg z];omega
def jaf:List Vanbka.Expr->Exprs->Exprs
 | [],m=>m
 | e::l,m=>.cons e (jaf l m)
theorem jmz(l:List Vanbka.Expr)(e:Vanbka.Expr)(m:Exprs):jaf (l ++ [e]) m=jaf l (.cons e m):=by
 induction l with
 | nil=>rfl
 | cons x l ih=>exact congrArg (Exprs.cons x) ih
theorem jkk(l:List Vanbka.Expr)(m:Exprs):y6 (jaf l m)=l.map jx ++ y6 m:=by
 induction l with
 | nil=>rfl
 | cons x l ih=>show jx x::_=jx x::_;rw [ih];rfl
section
variable{P:Program}{w:World}{K:W.Frag}{mg:Str->Option Value}{base:Heap}{D:Ad}{N:Nat}
theorem jep{T:Hp}{X:Tx}{rd l:Addr}{H1 H' H3:Hp}{r:qb}{o u:HO}(R1:a8 D X rd H1 r)(hl:H1 l=some u)(bt:a7 rd H' H3):jg (ay T H1 H') (ay T H1 (upd H3 l o)):=jk6 λb v z1 z2=>by
 have n1:b≠l:=λy=>by rw [y,hl] at z1;cases z1
 rw [jm n1];refine bt b v z2 λy=>?_;obtain ⟨dx,pre,h,_⟩:=R1.ob;rw [y,h] at z1;cases z1
theorem j40{X:Tx}{rd l:Addr}{H H2:Hp}{r:qb}{o u:HO}(bt:a7 rd H H2)(R2:a8 D X rd H2 r)(hl:H2 l=some u):∀ b,H2 b=none->upd H l o b=none:=λb z=>by
 have n1:b≠l:=λy=>by rw [y,hl] at z;cases z
 rw [jm n1];exact xc bt R2 b z
theorem jcg{T:Hp}{X:Tx}{rd l:Addr}{H H2 H3:Hp}{r:qb}{o u i:HO}(bt:a7 rd H H2)(R2:a8 D X rd H2 r)(hl:H2 l=some u):jg (ay T H2 H3) (ay T (upd H l i) (upd H3 l o)):=jbi (j40 bt R2 hl) λb v z1 z2=>by
 have n1:b≠l:=λy=>by rw [y,hl] at z1;cases z1
 rw [jm n1];exact z2
theorem ww{T H H':Hp}{l:Addr}{o:HO}:jg (ay T (upd H l o) H') (ay T H H'):=jbi (λb z=>by
 by_cases y:b=l
 ·rw [y,jd] at z;cases z
 ·rwa [jm y] at z) λ_ _ _ e=>e
theorem jwi{X:Tx}{rd l1 l2 l3:Addr}{H H1 H3:Hp}{r' r:qb}{Q:Addr->Hp->Prop}{E:XK}{k:Str}{v:V}{x:jw}(b1:a7 rd H H1)(R1:a8 D X rd H1 r')(m1:H1 l1=none)(b3:a7 rd (upd H1 l1 (.lst [])) H3)(R3:a8 D X rd H3 r)(n3:jz D.CN (ay X.T (upd H1 l1 (.lst [])) H3) x v)
  (m2:H3 l2=none) (m3:upd H3 l2 (.lst [v]) l3=none) (q:∀ z H9,a7 rd H H9->a8 D X rd H9 r->jz D.CN (ay X.T H H9) (.mk k [] [x] []) (.ref z)->Q z H9) :
  ∀ z dx,upd (upd H3 l2 (.lst [v])) l3 (.lst []) z=none->upd (upd H3 l2 (.lst [v])) l3 (.lst []) dx=none->dx≠z->
   jgg D.CN [.ref z,.str k,.ref l1,.ref l2,.ref l3] (upd (upd (upd (upd H3 l2 (.lst [v])) l3 (.lst [])) dx (.own z)) z (.ins D.CN dx [])) (λv H2=>v = .non/\Q z H2) E:=by
 have m1T:=ze R1.st m1;have m1r:=R1.ne m1
 have m1H:=xc b1 R1 l1 m1;have R2:a8 D X rd (upd H1 l1 (.lst [])) r':=R1.same (jo m1 _)
 have b2:a7 rd H (upd H1 l1 (.lst [])):=b1.then (jo m1 _)
 have ap:=b2.trans b3;have s1:jg H3 (upd H3 l2 (.lst [v])):=jo m2 _
 have s2:jg (upd H3 l2 (.lst [v])) (upd (upd H3 l2 (.lst [v])) l3 (.lst [])):=jo m3 _;have gr:=xc ap R3
 have g:jg (ay X.T (upd H1 l1 (.lst [])) H3) (ay X.T H (upd (upd H3 l2 (.lst [v])) l3 (.lst []))):=(yf b2 R2).trans (xg (s1.trans s2));exact yu (ls:=[]) (ps:=[x]) (bs:=[]) (λb z=>gr b (jk (s1.trans s2) z)) (R3.st.trans (s1.trans s2)) (j_ m1T m1H ((s1.trans s2) _ _ (b3 _ _ jd m1r))) (j_ (jk R3.st m2) (gr _ m2) (s2 _ _ jd))
  (j_ (jk (R3.st.trans s1) m3) (gr _ (jk s1 m3)) jd) ⟨by decide,(by show 1<=1000;decide),by decide⟩ .nil (wj (jz.same g _ _ n3)) zt λx H9 sm nd=>q x H9 (ap.then ((s1.trans s2).trans sm)) (R3.same ((s1.trans s2).trans sm)) nd
theorem jnz:jv ["reader"] ["reader"] (jj jdc):=fs_
theorem juy(Kn:jr K mg "read_signed" ["reader"] jdc)(B:z_ P w K mg base D)(I:vg P w K mg base D N)(h:Nat):ax P w K mg base (xy h 12) "read_signed" ["reader"] (a9 D 3 (N + 1) h [] Any (λn=>line n 8) (ql D)):=by
 refine zk (r:=11) Kn jnz (λ_ _ _ _ q=>q.len) (λ_ _ _ _ q=>q.le) λhh f ac A outer s H vs Q E hr q=>?_;obtain ⟨X,rd,rs,n,hn,rfl,pre,_,aa⟩:=q;obtain ⟨R,dp,_,fu,sz⟩:=pre;have cl:=B.rd.c.cl
 have nd:=jnz.nd;have r3:xw 3 _:=hr.mono (by omega)
 have G:=I.reached h;refine ⟨_,(jc (qi (js xi (xf B.look cl r3 (pv 0)) jf (j9 _)) (jc (j6 (qg B.take cl r3 (pv 0) (ja jf jb)))
   (je (jp (yp B r3 rfl (ja jf (ja (j5 jb) (ja (j5 (ja (jh G hr rfl (ja (pv 0) jb) (xq hh (by decide))) jb)) (ja (j5 jb) jb)))))))) j3)
   (je (jp (jh G hr rfl (ja (pv 0) jb) (xq hh (by decide)))))),?_⟩
 have aa:a0 D X rd H Q E (ql D) (line n 8 rs):=aa;cases n with
 | zero=>omega
 | succ n =>
  rw [line,if_neg (by decide),if_neg (by decide),if_pos (show (8 == 8)=true from rfl),jln R.wfr] at aa;refine zj R ⟨rfl,_,rfl,qd (λc=>?_) (λc=>?_)⟩
  ·have c:=wo c;obtain ⟨t,r',e1,e2,_⟩:=yw c (by decide);have jh1:rs.length=r'.length + 1:=by rw [e1];rfl
   have C1:Cell.Con rs (rs.drop 1) 0 1:=Cell.x6 (s := "-") (by rw [jln R.wfr];exact dt_ c);rw [dt_ c,if_pos rfl,e2] at aa;rw [e2] at C1;refine zi R c λ_ H1 b1 R1 _=>?_;rw [e2] at R1;refine ⟨by decide,λl1 m1=>⟨_,rfl,X,rd,r',n,by omega,rfl,⟨R1.same (jo m1 _),dp0 C1 dp,hh,by omega,sz⟩,trivial,q_ aa λe r he aa v H3 b3 R3 n3=>?_⟩⟩;exact ⟨(by show 1<=2 ^ 24;decide),λl2 m2=>⟨by decide,λl3 m3=>jwi b1 R1 m1 b3 R3 n3 m2 m3 λz H9 b9 R9 nd=>aa _ _ b9 R9 nd⟩⟩
  ·have c:=jac c;rw [df_ c,if_neg Bool.false_ne_true] at aa;exact ⟨_,rfl,X,rd,rs,n,by omega,rfl,⟨R,dp,hh,by omega,sz⟩,trivial,aa⟩
structure jl0(s:String)(z:Str):Prop where
 ne:z≠"END"
 nx:∀ rs:qb,bc rs->next (isSign s) rs=decide (jq rs=z)
theorem j01:jl0 ")" ")":=⟨by decide,λ_ h=>jc2 h⟩
theorem j02:jl0 "]" "]":=⟨by decide,λ_ h=>j2n h⟩
theorem jn2:jv ["reader", "closing", "parts"] ["reader", "closing"] (jj jde):=fs_
theorem jmk{cs:String}{z:Str}(cz:jl0 cs z)(Kn:jr K mg "read_listed" ["reader", "closing"] jde)(B:z_ P w K mg base D)(I:vg P w K mg base D N)(h:Nat) :
  ax P w K mg base (xy h 22) "read_listed" ["reader", "closing"] (a9 D 12 (N + 1) h [.str z] Any (λn=>listed n cs) (jb4 D)):=by
 refine zk (r:=21) Kn jn2 (λ_ _ _ _ q=>q.len) (λ_ _ _ _ q=>q.le) λhh f ac A outer s H vs Q E hr q=>?_;obtain ⟨X,rd,rs,n,hn,rfl,pre,_,aa⟩:=q;obtain ⟨R,dp,_,fu,sz⟩:=pre;have cl:=B.rd.c.cl
 have nd:=jn2.nd;have r3:xw 3 _:=hr.mono (by omega)
 have G:=I.expr h;refine ⟨_,(jc (ju (i:=2) nd rfl (Or.inl rfl) (j5 jb))
   (jc (qi (js jea (xf B.look cl r3 (pv 0)) (pv 1) (j9 _)) (jc (j6 (vd PySem.F.plainAttrs_list PySem.F.slot_list_append PySem.F.type_list_append zh (pv 2) (ja (jh G hr rfl (ja (pv 0) jb) (xq hh (by decide))) jb)))
   (je (z6 jad (js xi (xf B.look cl r3 (pv 0)) jf (j9 _)) (jc (j6 (qg B.take cl r3 (pv 0) (ja jf jb)))
   (je (j6 (vd PySem.F.plainAttrs_list PySem.F.slot_list_append PySem.F.type_list_append zh (pv 2) (ja (jh G hr rfl (ja (pv 0) jb) (xq hh (by decide))) jb)))))))) j3)
   (jc (j6 (qg B.take cl r3 (pv 0) (ja (pv 1) jb)))
   (je (jp (pv 2)))))),?_⟩
 have aa:a0 D X rd H Q E (jb4 D) (listed n cs rs):=aa;cases n with
 | zero=>omega
 | succ n =>
  rw [listed,cz.nx _ R.wfr] at aa;refine ⟨by decide,λl ml=>?_⟩;have mlT:=ze R.st ml
  have aj:=R.ne ml;have R1:a8 D X rd (upd H l (.lst [])) rs:=R.same (jo ml _)
  have b1:a7 rd H (upd H l (.lst [])):=(a7.refl rd H).then (jo ml _)
  have hal:=R.len;have fin:∀ (H':Hp) (r:qb) (done:List Vanbka.Expr) (vs:List V),a7 rd H H'->a8 D X rd H' r->H' l=some (.lst vs)->vs.length<=700->ji D.CN (ay X.T (upd H l (.lst [])) H') (done.map jx) vs->
    a0 D X rd H Q E (jb4 D) (eat (isSign cs) r >>= λr=>pure (jaf done .nil,r))->
    jci (jrl (vj D.CR "take" (jat D.CF D.CT D.CR) [] E (qy 0) (qk (qy 1) xh))) (jge (qy 2)) { nx:=λ_ H'=>Q .non H',rt:=Q } [some (V.ref rd),some (V.str z),some (V.ref l)] H':=by
   intro H' r done vs bt R' hl hv hN aa;refine y9 R' (cz.nx _ R'.wfr) (x_ aa λr2 he aa _ H2 b2 R2=>?_) cz.ne (λ_ q=>⟨_,rfl,q⟩);refine ⟨_,rfl,aa _ _ (bt.trans b2) R2 ⟨l,vs,rfl,j_ mlT ml (b2 _ _ hl aj),by omega,?_⟩⟩;rw [jkk];show ji _ _ (done.map jx ++ []) vs
   rw [List.append_nil];exact ji.same ((xz R1 b2).trans ww) _ _ hN
  refine zj R1 ⟨_,rfl,rfl,_,rfl,qd (λc=>?_) (λc=>?_)⟩
  ·have c:=jnn c;rw [df_ c,if_neg Bool.false_ne_true] at aa;refine ⟨_,rfl,.inl ⟨rfl,_,az.of jd⟩,_,rfl,X,rd,rs,n,by omega,rfl,⟨R1,dp,hh,by omega,sz⟩,trivial,q_ aa λe r he aa v H2 b2 R2 n2=>?_⟩;dsimp only at aa;have C2:=yl ((Cell.jae n).expr rs) he
   have lC2:=C2.len;have hl2:H2 l=some (.lst []):=b2 _ _ jd aj
   refine ⟨l,_,_,rfl,rfl,hl2,by decide,?_⟩;refine ⟨λm σ H'=>∃ (g:Nat) (r:qb) (done:List Vanbka.Expr) (vs:List V),σ=[some (.ref rd),some (.str z),some (.ref l)]/\a7 rd H H'/\a8 D X rd H' r/\tooDeepAt (h:Int) r=none/\16 * r.length + 1<=g/\g<=N/\m=r.length/\H' l=some (.lst vs)/\ji D.CN (ay X.T (upd H l (.lst [])) H') (done.map jx) vs/\vs.length + r.length<=X.all.length/\
    a0 D X rd H Q E (jb4 D) (more g r >>= λp=>eat (isSign cs) p.2 >>= λr=>pure (jaf done p.1,r)),
    ⟨_,n,r,[e],[v],rfl,(b1.trans b2).updn ml,R2.updn mlT aj,dp0 C2 dp,by omega,by omega,rfl,jd,wj (jz.same (jcg b1 R1 jd) _ _ n2),by rw [List.length_singleton];omega,aa⟩,?_⟩
   clear aa n2 b2 R2 C2 lC2 he hl2;rintro m σ H' ⟨g,r,done,vs,rfl,bt,R',dp',fg,gN,rfl,hl,hN,hsz,aa⟩;refine zj R' ⟨rfl,_,rfl,qd (λc=>?_) (λc=>?_)⟩
   ·have c:=wo c;obtain ⟨t,r',e1,e2,_⟩:=yw c (by decide);have jh1:r.length=r'.length + 1:=by rw [e1];rfl
    have C1:Cell.Con r (r.drop 1) 0 1:=Cell.x6 (s := ",") (by rw [jaz R'.wfr];exact dt_ c);cases g with
    | zero=>omega
    | succ g =>
     rw [more,jaz R'.wfr,dt_ c,if_pos rfl,e2] at aa;rw [e2] at C1;refine ⟨λσ' H2=>∃ m',m' < r.length/\∃ (g:Nat) (r:qb) (done:List Vanbka.Expr) (vs:List V),σ'=[some (.ref rd),some (.str z),some (.ref l)]/\a7 rd H H2/\a8 D X rd H2 r/\tooDeepAt (h:Int) r=none/\16 * r.length + 1<=g/\g<=N/\m'=r.length/\H2 l=some (.lst vs)/\ji D.CN (ay X.T (upd H l (.lst [])) H2) (done.map jx) vs/\vs.length + r.length<=X.all.length/\
      a0 D X rd H Q E (jb4 D) (more g r >>= λp=>eat (isSign cs) p.2 >>= λr=>pure (jaf done p.1,r)),λ_ _ z=>z,?_⟩
     refine zi R' c λ_ H2 b2 R2 _=>?_;rw [e2] at R2;have hl2:H2 l=some (.lst vs):=b2 _ _ hl aj
     have aa:a0 D X rd H Q E (jb4 D) (Vanbka.expr g r' >>= λp=>more g p.2 >>= λq=>eat (isSign cs) q.2 >>= λr=>pure (jaf (done ++ [p.1]) q.1,r)):=by
      cases he:Vanbka.expr g r' with
      | error y=>rw [he] at aa;exact aa
      | ok p =>
       rw [he] at aa;obtain ⟨e,r2⟩:=p;show a0 D X rd H Q E (jb4 D) (more g r2 >>= λq=>eat (isSign cs) q.2 >>= λr=>pure (jaf (done ++ [e]) q.1,r))
       have aa:a0 D X rd H Q E (jb4 D) ((more g r2 >>= λq=>pure (Exprs.cons e q.1,q.2)) >>= λp=>eat (isSign cs) p.2 >>= λr=>pure (jaf done p.1,r)):=aa;cases hm:more g r2 with
       | error y=>rw [hm] at aa;exact aa
       | ok q =>
        rw [hm] at aa;have aa:a0 D X rd H Q E (jb4 D) (eat (isSign cs) q.2 >>= λr=>pure (jaf done (.cons e q.1),r)):=aa
        show a0 D X rd H Q E (jb4 D) (eat (isSign cs) q.2 >>= λr=>pure (jaf (done ++ [e]) q.1,r));rw [jmz];exact aa
     refine ⟨_,rfl,.inl ⟨rfl,_,az.of hl2⟩,_,rfl,X,rd,r',g,by omega,rfl,⟨R2,dp0 C1 dp',hh,by omega,sz⟩,trivial,q_ aa λe r3 he aa v3 H3 b3 R3 n3=>?_⟩;have C3:=yl ((Cell.jae g).expr r') he
     have lC3:=C3.len;have hl3:H3 l=some (.lst vs):=b3 _ _ hl2 aj
     have ao:=bt.trans b2;refine ⟨l,_,_,rfl,rfl,hl3,?_,r3.length,by omega,g,r3,done ++ [e],vs ++ [v3],rfl,(ao.trans b3).updn ml,R3.updn mlT aj,dp0 C3 (dp0 C1 dp'),by omega,by omega,rfl,jd,?_,?_,aa⟩
     ·show vs.length < 2 ^ 24;omega
     ·rw [List.map_append];exact ji.snoc (jz.same (jcg ao R2 hl2) _ _ n3) _ _ (ji.same (jep R1 jd (b2.trans b3)) _ _ hN)
     ·rw [List.length_append,List.length_singleton];omega
   ·have c:=jac c;have e:more g r = .ok (.nil,r):=by
     cases g with
     | zero=>omega
     | succ g=>rw [more,jaz R'.wfr,df_ c,if_neg Bool.false_ne_true]
    rw [e] at aa;exact fin H' r done vs bt R' hl (by omega) hN aa
  ·have c:=jno c;rw [dt_ c,if_pos rfl] at aa;refine fin _ rs [] [] b1 R1 jd (by decide) jbe ?_;have e:eat (isSign cs) rs = .ok (rs.drop 1):=by unfold eat;rw [cz.nx _ R.wfr,dt_ c,if_pos rfl]
   rw [e];exact aa
end
theorem jel{s:String}{t:Vanbka.Tok}{r:qb}(h:next (isSign s) (t::r)=true)(o:Vanbka.opening (.sign (b s))=true):Vanbka.opening t.lex=true:=by
 have e:t.lex = .sign (b s):=by simpa [next,isSign] using h
 rw [e];exact o
theorem jap(z:Str)(zs:List Str):inV (.str z) (zs.map V.str)=decide (z∈zs):=by
 induction zs with
 | nil=>rfl
 | cons x l ih =>
  show ((x == z) || inV (.str z) (l.map V.str))=_;rw [ih];by_cases e:z=x
  ·subst e;simp
  ·have e':¬ x=z:=λy=>e y.symm;rw [beq_eq_false_iff_ne.mpr e',Bool.false_or];simp [e]
def jey(n:Nat)(x:Vanbka.Expr)(ts:qb):Except Nat (Vanbka.Expr×qb) :=
 if next (isSign "(") ts then listed n ")" (ts.drop 1) >>= λp=>pure (.call x p.1,p.2)
 else if next (isSign "[") ts then Vanbka.expr n (ts.drop 1) >>= λp=>eat (isSign "]") p.2 >>= λr=>pure (.index x p.1,r)
 else Vanbka.name (ts.drop 1) >>= λp=>pure (.field x p.1,p.2)
theorem jrz{n:Nat}{x:Vanbka.Expr}{ts:qb}(w:bc ts):reach (n + 1) x ts=if jq ts∈(["(", "[", "."]:List Str) then jey n x ts >>= λp=>reach n p.1 p.2 else .ok (x,ts):=by
 rw [reach];unfold jey;rw [jgz w,jlo w,jy2 w];by_cases c1:jq ts = "("
 ·rw [dt_ c1,if_pos rfl,if_pos rfl,if_pos (by rw [c1];decide)];cases listed n ")" (ts.drop 1) <;> rfl
 rw [df_ c1,if_neg Bool.false_ne_true,if_neg Bool.false_ne_true];by_cases c2:jq ts = "["
 ·rw [dt_ c2,if_pos rfl,if_pos rfl,if_pos (by rw [c2];decide)];cases Vanbka.expr n (ts.drop 1) with
  | error l=>rfl
  | ok p =>
   show (eat (isSign "]") p.2 >>= _)=_;cases h:eat (isSign "]") p.2 with
   | error l =>
    show _=(eat (isSign "]") p.2 >>= _) >>= _;rw [h];rfl
   | ok r =>
    show _=(eat (isSign "]") p.2 >>= _) >>= _;rw [h];rfl
 rw [df_ c2,if_neg Bool.false_ne_true,if_neg Bool.false_ne_true];by_cases c3:jq ts = "."
 ·rw [dt_ c3,if_pos rfl,if_pos (by rw [c3];decide)];cases Vanbka.name (ts.drop 1) <;> rfl
 rw [df_ c3,if_neg Bool.false_ne_true,if_neg (λz=>by simp [c1,c2,c3] at z)]
theorem jp2{n:Nat}{x:Vanbka.Expr}{ts:qb}(w:bc ts)(c:jq ts∈(["(", "[", "."]:List Str)):Cell.Res (jey n x ts) ts 0 1:=by
 unfold jey;by_cases h1:next (isSign "(") ts=true
 ·rw [if_pos h1];exact Cell.Res.to (Cell.Res.after (Cell.x6 h1) (Cell.Res.bind ((Cell.jae n).listed ")" _) λa r _=>Cell.Res.ret)) (by rw [Cell.jd4,Cell.jb1];rfl) (by omega)
 rw [if_neg h1];by_cases h2:next (isSign "[") ts=true
 ·rw [if_pos h2];exact Cell.Res.to (Cell.Res.after (Cell.x6 h2) (Cell.Res.bind ((Cell.jae n).expr _) λa r _=>Cell.zc.bind Cell.qt λr _=>Cell.Res.ret)) (by rw [Cell.jrn,Cell.jro];rfl) (by omega)
 rw [if_neg h2];have h3:next (isSign ".") ts=true:=by
  rw [jgz w] at h1;rw [jlo w] at h2;rw [jy2 w];simp at c h1 h2 ⊢;rcases c with z | z | z
  ·exact absurd z h1
  ·exact absurd z h2
  ·exact z
 exact Cell.Res.to (Cell.Res.after (Cell.x6 h3) (Cell.Res.bind Cell.za λa r _=>Cell.Res.ret)) (by rw [Cell.jtx];rfl) (by omega)
def jjv{α:Type}(D:Ad)(X:Tx)(rd:Addr)(H0 H:Hp)(Q:VK)(E:XK)(rep:Hp->α->V->Prop)(res:Except Nat (α×qb)):Prop:=match res with
 | .ok (a,r)=>∀ v H',a7 rd H H'->a8 D X rd H' r->rep (ay X.T H0 H') a v->Q v H'
 | .error l=>Err D.CF E 4 (placeAt X.all X.len l:Nat)
section
variable{D:Ad}{X:Tx}{rd:Addr}{H0 H H1:Hp}{Q Q1:VK}{E:XK}{rs:qb}{α β:Type}{rep:Hp->β->V->Prop}{rep1:Hp->α->V->Prop}
theorem jmj{x:Except Nat (α×qb)}{f:α×qb->Except Nat (β×qb)}(aa:jjv D X rd H0 H Q E rep (x >>= f))
  (k:∀ a r,x = .ok (a,r)->jjv D X rd H0 H Q E rep (f (a,r))->∀ v H2,a7 rd H1 H2->a8 D X rd H2 r->rep1 (ay X.T H1 H2) a v->Q1 v H2):a0 D X rd H1 Q1 E rep1 x:=by
 cases x with
 | error l=>exact aa
 | ok p=>exact λv H2 b R n=>k p.1 p.2 rfl aa v H2 b R n
theorem jw_{x:Except Nat (α×qb)}{f:α×qb->Except Nat (β×qb)}(aa:jjv D X rd H0 H Q E rep (x >>= f))
  (k:∀ a r,x = .ok (a,r)->jjv D X rd H0 H Q E rep (f (a,r))->∀ v H2,a7 rd H1 H2->a8 D X rd H2 r->rep1 X.T a v->Q1 v H2):jju D X rd H1 Q1 E rep1 x:=by
 cases x with
 | error l=>exact aa
 | ok p=>exact λv H2 b R n=>k p.1 p.2 rfl aa v H2 b R n
theorem jxa{x:Except Nat qb}{f:qb->Except Nat (β×qb)}(aa:jjv D X rd H0 H Q E rep (x >>= f))
  (k:∀ r,x = .ok r->jjv D X rd H0 H Q E rep (f r)->∀ v H2,a7 rd H1 H2->a8 D X rd H2 r->Q1 v H2):jyo D X rd H1 Q1 E x:=by
 cases x with
 | error l=>exact aa
 | ok r=>exact λv H2 b R=>k r rfl aa v H2 b R
end
section
variable{P:Program}{w:World}{K:W.Frag}{mg:Str->Option Value}{base:Heap}{D:Ad}{N:Nat}
def jqd(D:Ad)(N h:Nat):Sp:=λvs H Q E=>∃ X rd rs n x v H0 rs0,n<=N/\vs=[.ref rd,v]/\Pre D X rd H rs h n 0/\jq rs∈(["(", "[", "."]:List Str)/\a8 D X rd H0 rs0/\a7 rd H0 H/\jz D.CN (ay X.T H0 H) (jx x) v/\jjv D X rd H0 H Q E (ql D) (jey n x rs)
theorem jqk:jv ["reader", "left", "sign", "at"] ["reader", "left"] (jj jd8):=fs_
theorem jxl(Kn:jr K mg "read_reach" ["reader", "left"] jd8)(B:z_ P w K mg base D)(I:vg P w K mg base D N)(GL:∀ h,ax P w K mg base (xy h 22) "read_listed" ["reader", "closing"] (a9 D 12 (N + 1) h [.str ")"] Any (λn=>listed n ")") (jb4 D)))(h:Nat) :
  ax P w K mg base (xy h 9) "read_reach" ["reader", "left"] (jqd D N h):=by
 refine zk (r:=8) Kn jqk (λ_ _ _ _ q=>?_) (λ_ _ _ _ q=>?_) λhh f ac A outer s H vs Q E hr q=>?_
 ·obtain ⟨X,rd,rs,n,x,v,H0,rs0,_,rfl,_⟩:=q;rfl
 ·obtain ⟨X,rd,rs,n,x,v,H0,rs0,_,rfl,p,_⟩:=q;exact p.le
 obtain ⟨X,rd,rs,n,x,v,H0,rs0,hn,rfl,pre,c,R0,b0,nx,aa⟩:=q;obtain ⟨R,dp,_,fu,sz⟩:=pre;have cl:=B.rd.c.cl
 have nd:=jqk.nd;have r3:xw 3 _:=hr.mono (by omega)
 have GL:=GL (h + 1);have GE:=I.expr (h + 1)
 refine ⟨_,(jc (ju (i:=2) nd rfl (Or.inl rfl) (xf B.move cl r3 (pv 0)))
   (jc (qi (js xi (pv 2) jf (j9 _)) (je (jp (yp B r3 rfl (ja jf (ja (j5 jb) (ja (qa qh (j5 (ja (pv 1) jb)) (jh GL hr rfl (ja (pv 0) (ja jf jb)) (je9 hh (by decide)))) (ja (j5 jb) jb))))))) j3)
   (jc (qi (js xi (pv 2) jf (j9 _)) (jc (ju (i:=3) nd rfl (Or.inl rfl) (jh GE hr rfl (ja (pv 0) jb) (je9 hh (by decide))))
   (jc (j6 (qg B.take cl r3 (pv 0) (ja jf jb)))
   (je (jp (yp B r3 rfl (ja jf (ja (j5 jb) (ja (j5 (ja (pv 1) (ja (pv 3) jb))) (ja (j5 jb) jb))))))))) j3)
   (je (jp (yp B r3 rfl (ja jf (ja (j5 (ja (qg B.take cl r3 (pv 0) (ja jf jb)) jb)) (ja (j5 (ja (pv 1) jb)) (ja (j5 jb) jb)))))))))),?_⟩
 have w:=R.wfr;cases rs with
 | nil=>exact absurd c (by decide)
 | cons t r =>
  have lr:(t::r).length=r.length + 1:=rfl;have dr:(t::r).drop 1=r:=rfl
  unfold jey at aa;rw [jgz w,jlo w,dr] at aa;refine jf4 R λH1 b1 R1=>?_;have b01:=b0.trans b1
  have hk:jq (t::r)=jy t.lex:=rfl;rw [hk] at aa c;refine ⟨_,rfl,rfl,_,rfl,qd (λk1=>?_) (λk1=>?_)⟩
  ·have k1:=wo k1;rw [dt_ k1,if_pos rfl] at aa;have op:next (isSign "(") (t::r)=true:=by rw [jgz w];exact dt_ k1
   have C1:Cell.Con (t::r) r 1 1:=Cell.x6 op;have h24:h < 24:=by
    have:=Cell.jcf (t:=t) (r:=r) (jel op (by decide +kernel)) dp;omega
   refine ⟨by decide,λl1 m1=>⟨_,rfl,(by show 1<=2 ^ 24;decide),λl2 m2=>?_⟩⟩;have s12:jg H1 (upd (upd H1 l1 (.lst [])) l2 (.lst [v])):=(jo m1 _).trans (jo m2 _)
   have R2:=R1.same s12;have ao:=b01.then s12
   refine ⟨_,rfl,X,rd,r,n,by omega,rfl,⟨R2,dp1 C1 dp,by omega,by omega,sz⟩,trivial,jmj aa λl r3 he aa u H3 b3 R3 n3=>?_⟩;obtain ⟨a,vs,rfl,ha,lv,hN⟩:=n3;have m1r:=R1.ne m1
   have m2r:l2≠rd:=(R1.same (jo m1 _)).ne m2;have hl1:H3 l1=some (.lst []):=b3 _ _ (jo m2 _ _ _ jd) m1r
   have hl2:H3 l2=some (.lst [v]):=b3 _ _ jd m2r;have ha3:H3 a=some (.lst vs):=jf8 R3.st _ _ ha
   refine ⟨l2,a,_,_,rfl,rfl,hl2,ha3,(by show 1 + vs.length<=2 ^ 24;omega),λl4 m4=>⟨by decide,λl5 m5=>?_⟩⟩;have ap:=ao.trans b3
   have gr:=xc ap R3;have s1:jg H3 (upd H3 l4 (.lst ([v] ++ vs))):=jo m4 _
   have s2:jg (upd H3 l4 (.lst ([v] ++ vs))) (upd (upd H3 l4 (.lst ([v] ++ vs))) l5 (.lst [])):=jo m5 _;have g1:jg (ay X.T H0 H) (ay X.T H0 (upd (upd H3 l4 (.lst ([v] ++ vs))) l5 (.lst []))):=(xz R0 ((b1.then s12).trans b3)).trans (xg (s1.trans s2))
   have g3:jg (ay X.T (upd (upd H1 l1 (.lst [])) l2 (.lst [v])) H3) (ay X.T H0 (upd (upd H3 l4 (.lst ([v] ++ vs))) l5 (.lst []))):=(yf ao R2).trans (xg (s1.trans s2));exact yu (ls:=[]) (ps:=jx x::y6 l) (bs:=[]) (λb z=>gr b (jk (s1.trans s2) z)) (R3.st.trans (s1.trans s2)) (j_ (ze R1.st m1) (xc b01 R1 l1 m1) ((s1.trans s2) _ _ hl1)) (j_ (jk R3.st m4) (gr _ m4) (s2 _ _ jd))
    (j_ (jk (R3.st.trans s1) m5) (gr _ (jk s1 m5)) jd) ⟨by decide,(by show vs.length + 1<=1000;omega),by decide⟩ .nil (jcp (jz.same g1 _ _ nx) (ji.same g3 _ _ hN)) zt λz H9 sm nd=>aa _ _ (((b1.then s12).trans b3).then ((s1.trans s2).trans sm)) (R3.same ((s1.trans s2).trans sm)) nd
  have k1:=jac k1;rw [df_ k1,if_neg Bool.false_ne_true] at aa;refine ⟨_,rfl,rfl,_,rfl,qd (λk2=>?_) (λk2=>?_)⟩
  ·have k2:=wo k2;rw [dt_ k2,if_pos rfl] at aa;have op:next (isSign "[") (t::r)=true:=by rw [jlo w];exact dt_ k2
   have C1:Cell.Con (t::r) r 1 1:=Cell.x6 op;have h24:h < 24:=by
    have:=Cell.jcf (t:=t) (r:=r) (jel op (by decide +kernel)) dp;omega
   refine ⟨_,rfl,X,rd,r,n,by omega,rfl,⟨R1,dp1 C1 dp,by omega,by omega,sz⟩,trivial,jmj aa λe r3 he aa u H3 b3 R3 n3=>?_⟩;refine y9 R3 (j2n R3.wfr) (jxa aa λr4 he4 aa _ H4 b4 R4=>?_);have b04:=(b01.trans b3).trans b4
   have g1:jg (ay X.T H0 H) (ay X.T H0 H4):=xz R0 (b1.trans (b3.trans b4));have g3:jg (ay X.T H1 H3) (ay X.T H0 H4):=(yf b01 R1).trans (xz R0 b4)
   refine ⟨by decide,λl1 m1=>⟨_,rfl,_,rfl,(by show 2<=2 ^ 24;decide),λl2 m2=>⟨by decide,λl3 m3=>?_⟩⟩⟩;exact jd2 (xc b04 R4) R4.st m1 m2 m3 ⟨by decide,(by show 2<=1000;decide),by decide⟩ .nil (jcp (jz.same g1 _ _ nx) (wj (jz.same g3 _ _ n3))) zt λz H9 sm nd=>aa _ _ (((b1.trans b3).trans b4).then sm) (R4.same sm) nd
  ·have k2:=jac k2;rw [df_ k2,if_neg Bool.false_ne_true] at aa;refine jcq R1 (jw_ aa λy r2 he aa u H2 b2 R2 lf=>?_);have ao:=b01.trans b2
   refine ⟨(by show 1<=2 ^ 24;decide),λl1 m1=>⟨_,rfl,(by show 1<=2 ^ 24;decide),λl2 m2=>⟨by decide,λl3 m3=>?_⟩⟩⟩;have g1:jg (ay X.T H0 H) (ay X.T H0 H2):=xz R0 (b1.trans b2)
   exact jd2 (xc ao R2) R2.st m1 m2 m3 ⟨(by show 1<=1000;decide),(by show 1<=1000;decide),by decide⟩ (.cons (qo.same jbs lf) .nil) (wj (jz.same g1 _ _ nx)) zt λz H9 sm nd=>aa _ _ ((b1.trans b2).then sm) (R2.same sm) nd
theorem jmc:jv ["reader", "tree"] ["reader"] (jj jck):=fs_
theorem jr_(Kn:jr K mg "read_reached" ["reader"] jck)(B:z_ P w K mg base D)(I:vg P w K mg base D N)(GR:∀ h,ax P w K mg base (xy h 9) "read_reach" ["reader", "left"] (jqd D N h))(h:Nat) :
  ax P w K mg base (xy h 11) "read_reached" ["reader"] (a9 D 2 (N + 1) h [] Any (λn=>line n 9) (ql D)):=by
 refine zk (r:=10) Kn jmc (λ_ _ _ _ q=>q.len) (λ_ _ _ _ q=>q.le) λhh f ac A outer s H vs Q E hr q=>?_;obtain ⟨X,rd,rs,n,hn,rfl,pre,_,aa⟩:=q;obtain ⟨R,dp,_,fu,sz⟩:=pre;have cl:=B.rd.c.cl
 have nd:=jmc.nd;have r3:xw 3 _:=hr.mono (by omega)
 have GS:=I.simple h;have GR:=GR h
 refine ⟨_,(jc (ju (i:=1) nd rfl (Or.inl rfl) (jh GS hr rfl (ja (pv 0) jb) (xq hh (by decide))))
   (jc (z6 jad (js zn (xf B.look cl r3 (pv 0)) (jbw (ja jf (ja jf (ja jf jb)))) rfl) (je (ju (i:=1) nd rfl (Or.inl rfl) (jh GR hr rfl (ja (pv 0) (ja (pv 1) jb)) (xq hh (by decide))))))
   (je (jp (pv 1))))),?_⟩
 have aa:a0 D X rd H Q E (ql D) (line n 9 rs):=aa;cases n with
 | zero=>omega
 | succ n =>
  rw [line,if_neg (by decide),if_neg (by decide),if_neg (by decide),if_pos (show (9 == 9)=true from rfl)] at aa;refine ⟨_,rfl,X,rd,rs,n,by omega,rfl,⟨R,dp,hh,by omega,sz⟩,trivial,q_ aa λx r he aa v H1 b1 R1 n1=>?_⟩;dsimp only at aa;have C1:=yl ((Cell.jae n).simple rs) he
  have lC1:=C1.len;refine ⟨λm σ H'=>∃ (g:Nat) (x:Vanbka.Expr) (r:qb) (v:V),σ=[some (.ref rd),some v]/\a7 rd H H'/\a8 D X rd H' r/\tooDeepAt (h:Int) r=none/\16 * r.length + 1<=g/\g<=N/\m=r.length/\ql D (ay X.T H H') x v/\a0 D X rd H Q E (ql D) (reach g x r),
   ⟨_,n,x,r,v,rfl,b1,R1,dp0 C1 dp,by omega,by omega,rfl,n1,aa⟩,?_⟩
  clear aa n1 b1 R1 C1 lC1 he;rintro m σ H' ⟨g,x,r,v,rfl,bt,R',dp',fg,gN,rfl,nx,aa⟩;refine zj R' ⟨by decide,λp np=>⟨p,_,rfl,.inr (be.of jd),rfl,rfl,_,rfl,?_⟩⟩;have sp:jg H' (upd H' p (.tup [.str "(",.str "[",.str "."])):=jo np _
  have ein:inV (.str (jq r)) [.str "(",.str "[",.str "."]=decide (jq r∈(["(", "[", "."]:List Str)):=jap _ ["(", "[", "."];rw [if_neg Bool.false_ne_true,ein];have R2:=R'.same sp
  have b2:=bt.then sp;have g2:jg (ay X.T H H') (ay X.T H (upd H' p (.tup [.str "(",.str "[",.str "."]))):=xg sp
  cases g with
  | zero=>omega
  | succ g =>
   rw [jrz R'.wfr] at aa;refine qd (λc=>?_) (λc=>?_)
   ·have c:=ot_ c;rw [if_pos c] at aa;refine ⟨λσ' H2=>∃ m',m' < r.length/\∃ (g:Nat) (x:Vanbka.Expr) (r:qb) (v:V),σ'=[some (.ref rd),some v]/\a7 rd H H2/\a8 D X rd H2 r/\tooDeepAt (h:Int) r=none/\16 * r.length + 1<=g/\g<=N/\m'=r.length/\ql D (ay X.T H H2) x v/\a0 D X rd H Q E (ql D) (reach g x r),λ_ _ z=>z,?_⟩;refine ⟨_,rfl,_,rfl,X,rd,r,g,x,v,H,rs,by omega,rfl,⟨R2,dp',hh,by omega,sz⟩,c,R,b2,jz.same g2 _ _ nx,?_⟩;have fr:=jp2 (n:=g) (x:=x) R'.wfr c
    cases he:jey g x r with
    | error l=>rw [he] at aa;exact aa
    | ok q =>
     obtain ⟨y,r3⟩:=q;rw [he] at aa;have C3:=yl fr he
     have lC3:=C3.len;intro v3 H3 b3 R3 n3;exact ⟨r3.length,by omega,g,y,r3,v3,rfl,b2.trans b3,R3,dp0 C3 dp',by omega,by omega,rfl,n3,aa⟩
   ·have c:¬ jq r∈(["(", "[", "."]:List Str):=λz=>c (dt_ z);rw [if_neg c] at aa;exact ⟨_,rfl,aa _ _ b2 R2 (jz.same g2 _ _ nx)⟩
abbrev jbn:PySem.Stmt:=top 43
abbrev jdd:PySem.Stmt:=top 44
theorem jbh{T H0 H1 H2 H3:Hp}(h:∀ b o,H1 b=none->H2 b=some o->H0 b=none/\H3 b=some o):jg (ay T H1 H2) (ay T H0 H3):=λb o e=>by
 rcases jak e with z | ⟨z1,z2,z3⟩
 ·exact jiv z
 ·exact j_ z1 (h b o z2 z3).1 (h b o z2 z3).2
def jbt:List (Bytes×Vanbka.Expr)->Fields->Fields
 | [],m=>m
 | p::l,m=>.cons p.1 p.2 (jbt l m)
theorem jv8(l:List (Bytes×Vanbka.Expr))(x:Bytes)(e:Vanbka.Expr)(m:Fields):jbt (l ++ [(x,e)]) m=jbt l (.cons x e m):=by
 induction l with
 | nil=>rfl
 | cons p l ih=>exact congrArg (Fields.cons p.1 p.2) ih
theorem jsk(l:List (Bytes×Vanbka.Expr)):vo (jbt l .nil)=l.map λp=>jx p.2:=by
 induction l with
 | nil=>rfl
 | cons p l ih=>show jx p.2::_=jx p.2::_;rw [ih]
theorem jsm(l:List (Bytes×Vanbka.Expr)):je1 (jbt l .nil)=l.map λp=>x8.bytes p.1:=by
 induction l with
 | nil=>rfl
 | cons p l ih=>show x8.bytes p.1::_=x8.bytes p.1::_;rw [ih]
def wm(g:Nat)(r:qb):Except Nat (Fields×qb):=if next (isSign ",") r then fields g (r.drop 1) else .ok (.nil,r)
theorem ji3(g:Nat)(ts:qb):fields (g + 1) ts=Vanbka.name ts >>= λp=>eat (isSign ":") p.2 >>= λr=>Vanbka.expr g r >>= λq=>wm g q.2 >>= λu=>pure (.cons p.1 q.1 u.1,u.2):=by
 rw [fields];cases Vanbka.name ts with
 | error l=>rfl
 | ok p =>
  show (eat (isSign ":") p.2 >>= _)=(eat (isSign ":") p.2 >>= _)
  cases eat (isSign ":") p.2 with
  | error l=>rfl
  | ok r =>
   show (Vanbka.expr g r >>= _)=(Vanbka.expr g r >>= _)
   cases Vanbka.expr g r with
   | error l=>rfl
   | ok q =>
    show (if next (isSign ",") q.2=true then _ else _)=(wm g q.2 >>= _)
    unfold wm;split
    ·rename_i hc;cases fields g (q.2.drop 1) <;> rfl
    ·rfl
def j1z(n:Nat)(rs:qb):Except Nat (Vanbka.Expr×qb):=fields n rs >>= λp=>eat (isSign ")") p.2 >>= λr=>pure (.record p.1,r)
theorem jn0:jv ["reader", "names", "parts"] ["reader"] (jj jdd):=fs_
theorem juz(Kn:jr K mg "read_record" ["reader"] jdd)(B:z_ P w K mg base D)(I:vg P w K mg base D N)(h:Nat) :
  ax P w K mg base (xy h 22) "read_record" ["reader"] (a9 D 1 (N + 1) h [] Any j1z (ql D)):=by
 refine zk (r:=21) Kn jn0 (λ_ _ _ _ q=>q.len) (λ_ _ _ _ q=>q.le) λhh f ac A outer s H vs Q E hr q=>?_;obtain ⟨X,rd,rs,n,hn,rfl,pre,_,aa⟩:=q;obtain ⟨R,dp,_,fu,sz⟩:=pre;have cl:=B.rd.c.cl
 have nd:=jn0.nd;have r3:xw 3 _:=hr.mono (by omega)
 have GE:=I.expr h;refine ⟨_,(jc (ju (i:=1) nd rfl (Or.inl rfl) (j5 (ja (qg B.take cl r3 (pv 0) (ja jf jb)) jb)))
   (jc (j6 (qg B.take cl r3 (pv 0) (ja jf jb)))
   (jc (ju (i:=2) nd rfl (Or.inl rfl) (j5 (ja (jh GE hr rfl (ja (pv 0) jb) (xq hh (by decide))) jb)))
   (jc (z6 jad (js xi (xf B.look cl r3 (pv 0)) jf (j9 _)) (jc (j6 (qg B.take cl r3 (pv 0) (ja jf jb)))
   (jc (j6 (vd PySem.F.plainAttrs_list PySem.F.slot_list_append PySem.F.type_list_append zh (pv 1) (ja (qg B.take cl r3 (pv 0) (ja jf jb)) jb)))
   (jc (j6 (qg B.take cl r3 (pv 0) (ja jf jb)))
   (je (j6 (vd PySem.F.plainAttrs_list PySem.F.slot_list_append PySem.F.type_list_append zh (pv 2) (ja (jh GE hr rfl (ja (pv 0) jb) (xq hh (by decide))) jb))))))))
   (jc (j6 (qg B.take cl r3 (pv 0) (ja jf jb)))
   (je (jp (yp B r3 rfl (ja jf (ja (pv 1) (ja (pv 2) (ja (j5 jb) jb)))))))))))),?_⟩
 cases n with
 | zero=>omega
 | succ n =>
  have aa:a0 D X rd H Q E (ql D) (Vanbka.name rs >>= λp=>eat (isSign ":") p.2 >>= λr=>Vanbka.expr n r >>= λq=>wm n q.2 >>= λu=>eat (isSign ")") u.2 >>= λr=>pure (.record (.cons p.1 q.1 u.1),r)):=by
   have aa:a0 D X rd H Q E (ql D) (fields (n + 1) rs >>= λp=>eat (isSign ")") p.2 >>= λr=>pure (.record p.1,r)):=aa;rw [ji3] at aa;cases h1:Vanbka.name rs with
   | error l=>rw [h1] at aa;exact aa
   | ok p =>
    rw [h1] at aa;have aa:a0 D X rd H Q E (ql D) ((eat (isSign ":") p.2 >>= λr=>Vanbka.expr n r >>= λq=>wm n q.2 >>= λu=>pure (.cons p.1 q.1 u.1,u.2)) >>= λp=>eat (isSign ")") p.2 >>= λr=>pure (.record p.1,r)):=aa
    show a0 D X rd H Q E (ql D) (eat (isSign ":") p.2 >>= _);cases h2:eat (isSign ":") p.2 with
    | error l=>rw [h2] at aa;exact aa
    | ok r =>
     rw [h2] at aa;have aa:a0 D X rd H Q E (ql D) ((Vanbka.expr n r >>= λq=>wm n q.2 >>= λu=>pure (.cons p.1 q.1 u.1,u.2)) >>= λp=>eat (isSign ")") p.2 >>= λr=>pure (.record p.1,r)):=aa
     show a0 D X rd H Q E (ql D) (Vanbka.expr n r >>= _);cases h3:Vanbka.expr n r with
     | error l=>rw [h3] at aa;exact aa
     | ok q =>
      rw [h3] at aa;have aa:a0 D X rd H Q E (ql D) ((wm n q.2 >>= λu=>pure (.cons p.1 q.1 u.1,u.2)) >>= λp=>eat (isSign ")") p.2 >>= λr=>pure (.record p.1,r)):=aa
      show a0 D X rd H Q E (ql D) (wm n q.2 >>= _);cases h4:wm n q.2 with
      | error l=>rw [h4] at aa;exact aa
      | ok u=>rw [h4] at aa;exact aa
  refine jcq R (jbr aa λx r he aa v H1 b1 R1 lf=>?_);have hal:=R.len
  have C1:=yl Cell.za he;have lC1:=C1.len
  refine ⟨(by show 1<=2 ^ 24;decide),λla ma=>?_⟩;have maT:=ze R1.st ma
  have mar:=R1.ne ma;have maH:=xc b1 R1 la ma
  have R2:a8 D X rd (upd H1 la (.lst [v])) r:=R1.same (jo ma _);have b2:a7 rd H (upd H1 la (.lst [v])):=b1.then (jo ma _)
  refine y9 R2 (jem R2.wfr) (x_ aa λr3 he3 aa _ H3 b3 R3=>?_);have C3:=vm Cell.qt he3
  have lC3:=C3.len;have ap:=b2.trans b3
  refine ⟨_,rfl,X,rd,r3,n,by omega,rfl,⟨R3,dp0 C3 (dp0 C1 dp),hh,by omega,sz⟩,trivial,q_ aa λe r4 he4 aa v4 H4 b4 R4 n4=>?_⟩;have C4:=yl ((Cell.jae n).expr r3) he4
  have lC4:=C4.len;refine ⟨(by show 1<=2 ^ 24;decide),λlb mb=>?_⟩;have b04:=ap.trans b4
  have mbT:=ze R4.st mb;have mbr:=R4.ne mb
  have mbH:=xc b04 R4 lb mb;have hla3:H3 la=some (.lst [v]):=b3 _ _ jd mar
  have hla4:H4 la=some (.lst [v]):=b4 _ _ hla3 mar;have lab:la≠lb:=λz=>by rw [z,mb] at hla4;cases hla4
  have Rb:a8 D X rd (upd (upd H la (.lst [])) lb (.lst [])) rs:=(R.updn maT mar).updn mbT mbr;refine ⟨λm σ H'=>∃ (g:Nat) (r:qb) (done:List (Bytes×Vanbka.Expr)) (us vs:List V),σ=[some (.ref rd),some (.ref la),some (.ref lb)]/\a7 rd H H'/\a8 D X rd H' r/\tooDeepAt (h:Int) r=none/\16 * r.length + 1<=g/\g<=N/\m=r.length/\H' la=some (.lst us)/\H' lb=some (.lst vs)/\Paired (qo X.T) (done.map λp=>x8.bytes p.1) us/\ji D.CN (ay X.T (upd (upd H la (.lst [])) lb (.lst [])) H') (done.map λp=>jx p.2) vs/\us.length + r.length<=X.all.length/\vs.length + r.length<=X.all.length/\
     a0 D X rd H Q E (ql D) (wm g r >>= λp=>eat (isSign ")") p.2 >>= λr=>pure (.record (jbt done p.1),r)),
   ⟨_,n,r4,[(x,e)],[v],[v4],rfl,b04.updn mbH,R4.updn mbT mbr,dp0 C4 (dp0 C3 (dp0 C1 dp)),by omega,by omega,rfl,by rw [jm lab];exact hla4,jd,.cons lf .nil,wj (jz.same ?_ _ _ n4),by rw [List.length_singleton];omega,by rw [List.length_singleton];omega,aa⟩,?_⟩
  ·refine jbh λb o z1 z2=>?_;have n1:b≠la:=λy=>by rw [y,hla3] at z1;cases z1
   have n2:b≠lb:=λy=>by rw [y,mb] at z2;cases z2
   exact ⟨by rw [jm n2,jm n1];exact xc ap R3 b z1,by rw [jm n2];exact z2⟩
  clear aa n4 R4 b4 C4 lC4 he4 lC3 C3 he3 lC1 C1 he b3 R3 hla4 hla3 b04 ap mb;rintro m σ H' ⟨g,r,done,us,vs,rfl,bt,R',dp',fg,gN,rfl,hla,hlb,hU,hN,su,sv,aa⟩;unfold wm at aa;refine zj R' ⟨rfl,_,rfl,qd (λc=>?_) (λc=>?_)⟩
  ·have c:=wo c;obtain ⟨t,r',e1,e2,_⟩:=yw c (by decide);have jh1:r.length=r'.length + 1:=by rw [e1];rfl
   have C1:Cell.Con r (r.drop 1) 0 1:=Cell.x6 (s := ",") (by rw [jaz R'.wfr];exact dt_ c);rw [jaz R'.wfr,dt_ c,if_pos rfl,e2] at aa;rw [e2] at C1;cases g with
   | zero=>omega
   | succ g =>
    have aa:a0 D X rd H Q E (ql D) (Vanbka.name r' >>= λp=>eat (isSign ":") p.2 >>= λr=>Vanbka.expr g r >>= λq=>wm g q.2 >>= λu=>eat (isSign ")") u.2 >>= λr=>pure (.record (jbt (done ++ [(p.1,q.1)]) u.1),r)):=by
     rw [ji3] at aa;cases h1:Vanbka.name r' with
     | error l=>rw [h1] at aa;exact aa
     | ok p =>
      rw [h1] at aa;have aa:a0 D X rd H Q E (ql D) ((eat (isSign ":") p.2 >>= λr=>Vanbka.expr g r >>= λq=>wm g q.2 >>= λu=>pure (.cons p.1 q.1 u.1,u.2)) >>= λp=>eat (isSign ")") p.2 >>= λr=>pure (.record (jbt done p.1),r)):=aa
      show a0 D X rd H Q E (ql D) (eat (isSign ":") p.2 >>= _);cases h2:eat (isSign ":") p.2 with
      | error l=>rw [h2] at aa;exact aa
      | ok r =>
       rw [h2] at aa;have aa:a0 D X rd H Q E (ql D) ((Vanbka.expr g r >>= λq=>wm g q.2 >>= λu=>pure (.cons p.1 q.1 u.1,u.2)) >>= λp=>eat (isSign ")") p.2 >>= λr=>pure (.record (jbt done p.1),r)):=aa
       show a0 D X rd H Q E (ql D) (Vanbka.expr g r >>= _);cases h3:Vanbka.expr g r with
       | error l=>rw [h3] at aa;exact aa
       | ok q =>
        rw [h3] at aa;have aa:a0 D X rd H Q E (ql D) ((wm g q.2 >>= λu=>pure (.cons p.1 q.1 u.1,u.2)) >>= λp=>eat (isSign ")") p.2 >>= λr=>pure (.record (jbt done p.1),r)):=aa
        show a0 D X rd H Q E (ql D) (wm g q.2 >>= _);cases h4:wm g q.2 with
        | error l=>rw [h4] at aa;exact aa
        | ok u =>
         rw [h4] at aa;show a0 D X rd H Q E (ql D) (eat (isSign ")") u.2 >>= λr=>pure (.record (jbt (done ++ [(p.1,q.1)]) u.1),r))
         rw [jv8];exact aa
    refine ⟨λσ H'=>∃ m,m < r.length/\∃ (g:Nat) (r:qb) (done:List (Bytes×Vanbka.Expr)) (us vs:List V),σ=[some (.ref rd),some (.ref la),some (.ref lb)]/\a7 rd H H'/\a8 D X rd H' r/\tooDeepAt (h:Int) r=none/\16 * r.length + 1<=g/\g<=N/\m=r.length/\H' la=some (.lst us)/\H' lb=some (.lst vs)/\Paired (qo X.T) (done.map λp=>x8.bytes p.1) us/\ji D.CN (ay X.T (upd (upd H la (.lst [])) lb (.lst [])) H') (done.map λp=>jx p.2) vs/\us.length + r.length<=X.all.length/\vs.length + r.length<=X.all.length/\
     a0 D X rd H Q E (ql D) (wm g r >>= λp=>eat (isSign ")") p.2 >>= λr=>pure (.record (jbt done p.1),r)),λ_ _ z=>z,?_⟩
    refine zi R' c λ_ H2 b2 R2 _=>?_;rw [e2] at R2;have hla2:H2 la=some (.lst us):=b2 _ _ hla mar
    have hlb2:H2 lb=some (.lst vs):=b2 _ _ hlb mbr;refine ⟨_,rfl,.inl ⟨rfl,_,az.of hla2⟩,?_⟩;refine jcq R2 (jbr aa λy r3 he3 aa u H3 b3 R3 lf3=>?_);have C3:=yl Cell.za he3
    have lC3:=C3.len;have hla3:H3 la=some (.lst us):=b3 _ _ hla2 mar
    have hlb3:H3 lb=some (.lst vs):=b3 _ _ hlb2 mbr;refine ⟨la,_,_,rfl,rfl,hla3,(by show us.length < 2 ^ 24;omega),?_⟩;have R3':a8 D X rd (upd H3 la (.lst (us ++ [u]))) r3:=R3.updn maT mar
    have ap:a7 rd H (upd H3 la (.lst (us ++ [u]))):=((bt.trans b2).trans b3).updn maH;have hlb3':(upd H3 la (.lst (us ++ [u]))) lb=some (.lst vs):=by rw [jm (Ne.symm lab)];exact hlb3
    refine y9 R3' (jem R3'.wfr) (x_ aa λr4 he4 aa _ H4 b4 R4=>?_);have C4:=vm Cell.qt he4
    have lC4:=C4.len;have hla4:H4 la=some (.lst (us ++ [u])):=b4 _ _ jd mar
    have hlb4:H4 lb=some (.lst vs):=b4 _ _ hlb3' mbr;have b04:=ap.trans b4
    refine ⟨_,rfl,.inl ⟨rfl,_,az.of hlb4⟩,_,rfl,X,rd,r4,g,by omega,rfl,⟨R4,dp0 C4 (dp0 C3 (dp0 C1 dp')),hh,by omega,sz⟩,trivial,q_ aa λe5 r5 he5 aa v5 H5 b5 R5 n5=>?_⟩;have C5:=yl ((Cell.jae g).expr r4) he5
    have lC5:=C5.len;have hla5:H5 la=some (.lst (us ++ [u])):=b5 _ _ hla4 mar
    have hlb5:H5 lb=some (.lst vs):=b5 _ _ hlb4 mbr;have dpx:tooDeepAt (h:Int) r5=none:=dp0 C5 (dp0 C4 (dp0 C3 (dp0 C1 dp')))
    refine ⟨lb,_,_,rfl,rfl,hlb5,(by show vs.length < 2 ^ 24;omega),r5.length,by omega,g,r5,done ++ [(y,e5)],us ++ [u],vs ++ [v5],rfl,(b04.trans b5).updn mbH,R5.updn mbT mbr,dpx,by omega,by omega,rfl,by rw [jm lab];exact hla5,jd,?_,?_,?_,?_,aa⟩
    ·rw [List.map_append];exact Paired.snoc hU lf3
    ·rw [List.map_append];refine ji.snoc (jz.same (jbh λb o z1 z2=>?_) _ _ n5) _ _ (ji.same (jk6 λb o z1 z2=>?_) _ _ hN)
     ·have n1:b≠la:=λy=>by rw [y,hla4] at z1;cases z1
      have n2:b≠lb:=λy=>by rw [y,hlb4] at z1;cases z1
      exact ⟨by rw [jm n2,jm n1];exact xc b04 R4 b z1,by rw [jm n2];exact z2⟩
     ·have n2:b≠lb:=λy=>by rw [y,jd] at z1;cases z1
      have n1:b≠la:=λy=>by rw [y,jm lab,jd] at z1;cases z1
      have n3:b≠rd:=λy=>by
       obtain ⟨dx,pre,hx,_⟩:=Rb.ob;rw [y,hx] at z1;cases z1
      rw [jm n2];exact b5 _ _ (b4 _ _ (by rw [jm n1];exact b3 _ _ (b2 _ _ z2 n3) n3) n3) n3
    ·rw [List.length_append,List.length_singleton];omega
    ·rw [List.length_append,List.length_singleton];omega
  ·have c:=jac c;rw [jaz R'.wfr,df_ c,if_neg Bool.false_ne_true] at aa;have aa:a0 D X rd H Q E (ql D) (eat (isSign ")") r >>= λr=>pure (.record (jbt done .nil),r)):=aa
   refine y9 R' (jc2 R'.wfr) (x_ aa λr2 he aa _ H2 b2 R2=>?_);have hla2:H2 la=some (.lst us):=b2 _ _ hla mar
   have hlb2:H2 lb=some (.lst vs):=b2 _ _ hlb mbr;refine ⟨_,rfl,_,rfl,by decide,λl3 m3=>?_⟩;have ao:=bt.trans b2
   have gr:=xc ao R2;have s1:jg H2 (upd H2 l3 (.lst [])):=jo m3 _
   have aa:a0 D X rd H Q E (ql D) (.ok (.record (jbt done .nil),r2)):=aa;refine yu (ls:=je1 (jbt done .nil)) (ps:=vo (jbt done .nil)) (bs:=[]) (λb z=>gr b (jk s1 z)) (R2.st.trans s1) (j_ maT maH (s1 _ _ hla2)) (j_ mbT mbH (s1 _ _ hlb2)) (j_ (jk R2.st m3) (gr _ m3) jd) ⟨by omega,by omega,by decide⟩ ?_ ?_ zt λz H9 sm nd=>aa _ _ (ao.then (s1.trans sm)) (R2.same (s1.trans sm)) nd
   ·rw [jsm];exact Paired.mapP hU λ_ _ z=>qo.same jbs z
   ·rw [jsk];refine ji.same (jbh λb o z1 z2=>?_) _ _ hN;have n2:b≠lb:=λy=>by rw [y,jd] at z1;cases z1
    have n1:b≠la:=λy=>by rw [y,jm lab,jd] at z1;cases z1
    have n3:b≠rd:=λy=>by
     obtain ⟨dx,pre,hx,_⟩:=Rb.ob;rw [y,hx] at z1;cases z1
    refine ⟨?_,s1 _ _ (b2 _ _ z2 n3)⟩;rw [jm n2,jm n1] at z1;exact z1
def vq:List (Str×Nat):=[("len",1),("keys",1),("text",1),("num",1),("roll",1),("cut",3),("with",3)]
theorem jhl{l:Lex}{p k n:Nat}{r:qb}(h1:∀ v,l≠.num v)(h2:∀ s,l≠.quoted s):simple (n + 1) (⟨l,p,k⟩::r) =
   if isSign "[" ⟨l,p,k⟩ then (listed n "]" r >>= λq=>pure (.list q.1,q.2))
   else if isSign "(" ⟨l,p,k⟩ then inBrackets n r
   else if isWord "fn" ⟨l,p,k⟩ then function n r
   else if isWord "yes" ⟨l,p,k⟩ then .ok (.truth true,r)
   else if isWord "no" ⟨l,p,k⟩ then .ok (.truth false,r)
   else if isWord "none" ⟨l,p,k⟩ then .ok (.nothing,r)
   else match nameNext (⟨l,p,k⟩::r) with
    | some x=>.ok (.name x,r)
    | none=>match (wordNext (⟨l,p,k⟩::r)).bind Vanbka.primOf with
     | some q=>eat (isSign "(") r >>= λr=>parts n q.2 r >>= λu=>pure (.prim q.1 u.1,u.2)
     | none=>halt_ (⟨l,p,k⟩::r):=by
 cases l with
 | num v=>exact absurd rfl (h1 v)
 | quoted s=>exact absurd rfl (h2 s)
 | word x =>
  rw [simple]
  ·cases (wordNext (⟨.word x,p,k⟩::r)).bind Vanbka.primOf <;> rfl
  ·intro _ _ _ z;cases z
  ·intro _ _ _ z;cases z
 | sign x =>
  rw [simple]
  ·cases (wordNext (⟨.sign x,p,k⟩::r)).bind Vanbka.primOf <;> rfl
  ·intro _ _ _ z;cases z
  ·intro _ _ _ z;cases z
def jr3:Lex->Option (Prim×Nat)
 | .word w=>if reserved.contains w then Vanbka.primOf w else none
 | _=>none
def jw6(z:Str):Option (Prim×Nat)->Bool
 | some (p,k)=>decide (vq.lookup z=some k) && decide (z=jdh p) && decide (1<=k) && decide (k<=3)
 | none=>decide (vq.lookup z=none)
theorem jr2:∀ l∈jai,jw6 (jy l) (jr3 l)=true:=by decide +kernel
inductive jau(n:Nat)(t:Vanbka.Tok)(r:qb):Except Nat (Vanbka.Expr×qb)->Prop
 | num (v:Nat) (e:t.lex = .num v) (k:jy t.lex = "NUMBER"):jau n t r (.ok (.num v,r))
 | quo (x:Bytes) (e:t.lex = .quoted x) (k:jy t.lex = "QUOTED"):jau n t r (.ok (.quoted x,r))
 | name (x:Bytes) (e:t.lex = .word x) (u:reserved.contains x=false) (k:jy t.lex = "NAME"):jau n t r (.ok (.name x,r))
 | yes (k:jy t.lex = "yes"):jau n t r (.ok (.truth true,r))
 | no (k:jy t.lex = "no"):jau n t r (.ok (.truth false,r))
 | none (k:jy t.lex = "none"):jau n t r (.ok (.nothing,r))
 | list (k:jy t.lex = "["):jau n t r (listed n "]" r >>= λq=>pure (.list q.1,q.2))
 | brack (k:jy t.lex = "("):jau n t r (inBrackets n r)
 | fn (k:jy t.lex = "fn"):jau n t r (function n r)
 | prim (p:Prim) (m:Nat) (k:jy t.lex=jdh p) (b:vq.lookup (jy t.lex)=some m) (l1:1<=m) (l3:m<=3):jau n t r (eat (isSign "(") r >>= λr=>parts n m r >>= λu=>pure (.prim p u.1,u.2))
 | bad (k:¬ jy t.lex∈(["NUMBER", "QUOTED", "NAME", "yes", "no", "none", "[", "(", "fn"]:List Str)) (b:vq.lookup (jy t.lex)=none):jau n t r (halt_ (t::r))
theorem jba{n:Nat}{t:Vanbka.Tok}{r:qb}(w:bc (t::r)):jau n t r (simple (n + 1) (t::r)):=by
 obtain ⟨l,p,k⟩:=t;have wl:Wf l:=w _ (.head _)
 have i1:isSign "[" ⟨l,p,k⟩=decide (jy l = "["):=jlo w;have i2:isSign "(" ⟨l,p,k⟩=decide (jy l = "("):=jgz w
 have i3:isWord "fn" ⟨l,p,k⟩=decide (jy l = "fn"):=jy3 w;have i4:isWord "yes" ⟨l,p,k⟩=decide (jy l = "yes"):=j2o w
 have i5:isWord "no" ⟨l,p,k⟩=decide (jy l = "no"):=j3y w;have i6:isWord "none" ⟨l,p,k⟩=decide (jy l = "none"):=j0o w
 rcases jab wl with hf | ⟨x,rfl,u⟩ | ⟨v,rfl⟩ | ⟨x,rfl⟩
 ·have nn:=vf l hf;have h1:∀ v,l≠.num v:=λv z=>nn.2.1 (by rw [z];rfl)
  have h2:∀ x,l≠.quoted x:=λx z=>nn.2.2.1 (by rw [z];rfl);rw [jhl h1 h2,i1,i2,i3,i4,i5,i6];by_cases c1:jy l = "["
  ·rw [dt_ c1,if_pos rfl];exact .list c1
  rw [df_ c1,if_neg Bool.false_ne_true];by_cases c2:jy l = "("
  ·rw [dt_ c2,if_pos rfl];exact .brack c2
  rw [df_ c2,if_neg Bool.false_ne_true];by_cases c3:jy l = "fn"
  ·rw [dt_ c3,if_pos rfl];exact .fn c3
  rw [df_ c3,if_neg Bool.false_ne_true];by_cases c4:jy l = "yes"
  ·rw [dt_ c4,if_pos rfl];exact .yes c4
  rw [df_ c4,if_neg Bool.false_ne_true];by_cases c5:jy l = "no"
  ·rw [dt_ c5,if_pos rfl];exact .no c5
  rw [df_ c5,if_neg Bool.false_ne_true];by_cases c6:jy l = "none"
  ·rw [dt_ c6,if_pos rfl];exact .none c6
  rw [df_ c6,if_neg Bool.false_ne_true];have e1:nameNext (⟨l,p,k⟩::r)=none:=by
   cases l with
   | word x =>
    show (if reserved.contains x then none else some x)=none;cases hx:reserved.contains x with
    | true=>rfl
    | false=>exact absurd (zr hx) nn.1
   | _=>rfl
  have e2:(wordNext (⟨l,p,k⟩::r)).bind Vanbka.primOf=jr3 l:=by
   cases l with
   | word x =>
    show (if reserved.contains x then some x else none).bind Vanbka.primOf=if reserved.contains x then Vanbka.primOf x else none
    cases reserved.contains x <;> rfl
   | _=>rfl
  rw [e1,e2];have fits:=jr2 l hf
  cases hp:jr3 l with
  | none =>
   rw [hp] at fits;refine .bad (λz=>?_) (ot_ fits);simp only [List.mem_cons,List.not_mem_nil,or_false] at z;rcases z with z | z | z | z | z | z | z | z | z
   ·exact nn.2.1 z
   ·exact nn.2.2.1 z
   ·exact nn.1 z
   ·exact c4 z
   ·exact c5 z
   ·exact c6 z
   ·exact c1 z
   ·exact c2 z
   ·exact c3 z
  | some q =>
   obtain ⟨pr,m⟩:=q;rw [hp] at fits;have fits:(((decide (vq.lookup (jy l)=some m) && decide (jy l=jdh pr)) && decide (1<=m)) && decide (m<=3))=true:=fits
   simp only [Bool.and_eq_true,decide_eq_true_eq] at fits;exact .prim pr m fits.1.1.2 fits.1.1.1 fits.1.2 fits.2
 ·have kn:=zr u;rw [jhl (λ_ z=>by cases z) (λ_ z=>by cases z),i1,i2,i3,i4,i5,i6,kn];have e1:nameNext (⟨.word x,p,k⟩::r)=some x:=by
   show (if reserved.contains x then none else some x)=some x;rw [u];rfl
  rw [e1];exact .name x rfl u kn
 ·exact .num v rfl rfl
 ·exact .quo x rfl rfl
theorem jnq{n:Nat}{t:Vanbka.Tok}{r:qb}(w:bc (t::r))(hk:jy t.lex = "("):simple (n + 1) (t::r)=inBrackets n r:=by
 have si:=jba (n:=n) w;generalize simple (n + 1) (t::r)=res at si;cases si with
 | num v e k=>rw [hk] at k;exact absurd k (by decide)
 | quo x e k=>rw [hk] at k;exact absurd k (by decide)
 | name x e u k=>rw [hk] at k;exact absurd k (by decide)
 | yes k=>rw [hk] at k;exact absurd k (by decide)
 | no k=>rw [hk] at k;exact absurd k (by decide)
 | none k=>rw [hk] at k;exact absurd k (by decide)
 | list k=>rw [hk] at k;exact absurd k (by decide)
 | brack k=>rfl
 | fn k=>rw [hk] at k;exact absurd k (by decide)
 | prim p m k b l1 l3 =>
  rw [hk] at b;have b:(none:Option Nat)=some m:=b
  cases b
 | bad k b=>exact absurd (by rw [hk];decide) k
theorem jpj{n:Nat}{t:Vanbka.Tok}{r:qb}(w:bc (t::r))(hk:jy t.lex = "["):simple (n + 1) (t::r)=(listed n "]" r >>= λq=>pure (.list q.1,q.2)):=by
 have si:=jba (n:=n) w;generalize simple (n + 1) (t::r)=res at si;cases si with
 | num v e k=>rw [hk] at k;exact absurd k (by decide)
 | quo x e k=>rw [hk] at k;exact absurd k (by decide)
 | name x e u k=>rw [hk] at k;exact absurd k (by decide)
 | yes k=>rw [hk] at k;exact absurd k (by decide)
 | no k=>rw [hk] at k;exact absurd k (by decide)
 | none k=>rw [hk] at k;exact absurd k (by decide)
 | list k=>rfl
 | brack k=>rw [hk] at k;exact absurd k (by decide)
 | fn k=>rw [hk] at k;exact absurd k (by decide)
 | prim p m k b l1 l3 =>
  rw [hk] at b;have b:(none:Option Nat)=some m:=b
  cases b
 | bad k b=>exact absurd (by rw [hk];decide) k
theorem jt2{n:Nat}{t:Vanbka.Tok}{r:qb}(w:bc (t::r))(hk:jy t.lex = "fn"):simple (n + 1) (t::r)=function n r:=by
 have si:=jba (n:=n) w;generalize simple (n + 1) (t::r)=res at si;cases si with
 | num v e k=>rw [hk] at k;exact absurd k (by decide)
 | quo x e k=>rw [hk] at k;exact absurd k (by decide)
 | name x e u k=>rw [hk] at k;exact absurd k (by decide)
 | yes k=>rw [hk] at k;exact absurd k (by decide)
 | no k=>rw [hk] at k;exact absurd k (by decide)
 | none k=>rw [hk] at k;exact absurd k (by decide)
 | list k=>rw [hk] at k;exact absurd k (by decide)
 | brack k=>rw [hk] at k;exact absurd k (by decide)
 | fn k=>rfl
 | prim p m k b l1 l3 =>
  rw [hk] at b;have b:(none:Option Nat)=some m:=b
  cases b
 | bad k b=>exact absurd (by rw [hk];decide) k
theorem jpi{n m:Nat}{t:Vanbka.Tok}{r:qb}(w:bc (t::r))(hb:vq.lookup (jy t.lex)=some m):∃ p,jy t.lex=jdh p/\1<=m/\m<=3/\simple (n + 1) (t::r)=(eat (isSign "(") r >>= λr=>parts n m r >>= λu=>pure (.prim p u.1,u.2)):=by
 have si:=jba (n:=n) w;generalize simple (n + 1) (t::r)=res at si;cases si with
 | num v e k =>
  rw [k] at hb;have hb:(none:Option Nat)=some m:=hb
  cases hb
 | quo x e k =>
  rw [k] at hb;have hb:(none:Option Nat)=some m:=hb
  cases hb
 | name x e u k =>
  rw [k] at hb;have hb:(none:Option Nat)=some m:=hb
  cases hb
 | yes k =>
  rw [k] at hb;have hb:(none:Option Nat)=some m:=hb
  cases hb
 | no k =>
  rw [k] at hb;have hb:(none:Option Nat)=some m:=hb
  cases hb
 | none k =>
  rw [k] at hb;have hb:(none:Option Nat)=some m:=hb
  cases hb
 | list k =>
  rw [k] at hb;have hb:(none:Option Nat)=some m:=hb
  cases hb
 | brack k =>
  rw [k] at hb;have hb:(none:Option Nat)=some m:=hb
  cases hb
 | fn k =>
  rw [k] at hb;have hb:(none:Option Nat)=some m:=hb
  cases hb
 | prim p m' k b l1 l3 =>
  rw [hb] at b;cases b;exact ⟨p,k,l1,l3,rfl⟩
 | bad k b=>rw [hb] at b;cases b
theorem jx0{CT CR:Addr}{E:XK}{i:Nat}{σ:St}{H:Hp}{Q:VK}{X:Tx}{rd:Addr}{t:Vanbka.Tok}{r:qb}(R:RD CT CR X rd H (t::r))(h:Q (.str (jq r)) H)(hi:σ[i]? = some (some (.ref rd)):=by rfl):vj CR "look_behind" (jgi CT CR) [] E (qy i) xh σ H Q :=
 jax hi R ⟨X,rd,t,r,rfl,R,h⟩
theorem jmo{rs:qb}(w:bc rs):(nameNext rs).isSome=decide (jq rs = "NAME"):=by
 cases rs with
 | nil=>rfl
 | cons t r =>
  obtain ⟨l,p,k⟩:=t;have wl:Wf l:=w _ (.head _)
  by_cases c:jy l = "NAME"
  ·obtain ⟨x,rfl,hx⟩:=(ji2 wl).mp c;rw [show decide (jq (⟨Lex.word x,p,k⟩::r) = "NAME")=true from dt_ c];show (if reserved.contains x then none else some x).isSome=true
   rw [hx];rfl
  ·rw [show decide (jq (⟨l,p,k⟩::r) = "NAME")=false from df_ c];cases l with
   | word x =>
    show (if reserved.contains x then none else some x).isSome=false;cases hx:reserved.contains x with
    | true=>rfl
    | false=>exact absurd (zr hx) c
   | _=>rfl
theorem jgv{X:Tx}{rd:Addr}{H H1:Hp}{Q:VK}{E:XK}{rs:qb}{res:Except Nat (Vanbka.Expr×qb)}(b1:a7 rd H H1)(R1:a8 D X rd H1 rs)(aa:a0 D X rd H Q E (ql D) res):a0 D X rd H1 Q E (ql D) res:=by
 cases res with
 | error l=>exact aa
 | ok p=>exact λv H2 b2 R2 n=>aa v H2 (b1.trans b2) R2 (jz.same (yf b1 R1) _ _ n)
theorem jqp:jv ["reader", "tree"] ["reader"] (jj jbn):=fs_
theorem jxs(Kn:jr K mg "read_bracketed" ["reader"] jbn)(B:z_ P w K mg base D)(I:vg P w K mg base D N)(GR:∀ h,ax P w K mg base (xy h 22) "read_record" ["reader"] (a9 D 1 (N + 1) h [] Any j1z (ql D)))(h:Nat) :
  ax P w K mg base (xy h 9) "read_bracketed" ["reader"] (a9 D 1 (N + 1) h [] (λrs=>jq rs = "(") simple (ql D)):=by
 refine zk (r:=8) Kn jqp (λ_ _ _ _ q=>q.len) (λ_ _ _ _ q=>q.le) λhh f ac A outer s H vs Q E hr q=>?_;obtain ⟨X,rd,rs,n,hn,rfl,pre,c0,aa⟩:=q;obtain ⟨R,dp,_,fu,sz⟩:=pre;have cl:=B.rd.c.cl
 have nd:=jqp.nd;have r3:xw 3 _:=hr.mono (by omega)
 have GR:=GR (h + 1);have GE:=I.expr (h + 1)
 refine ⟨_,(jc (j6 (qg B.take cl r3 (pv 0) (ja jf jb)))
   (jc (qi (js xi (xf B.look cl r3 (pv 0)) jf (j9 _)) (jc (j6 (qg B.take cl r3 (pv 0) (ja jf jb)))
   (jc (j6 (qg B.take cl r3 (pv 0) (ja jf jb)))
   (je (jp (yp B r3 rfl (ja jf (ja (j5 jb) (ja (j5 jb) (ja (j5 jb) jb))))))))) j3)
   (jc (qi (PW.pt (jcn (js xi (xf B.look cl r3 (pv 0)) jf (j9 _)) (jb_ (js xi (xf B.behind cl r3 (pv 0)) jf (j9 _))))) (je (jp (jh GR hr rfl (ja (pv 0) jb) (je9 hh (by decide))))) j3)
   (jc (ju (i:=1) nd rfl (Or.inl rfl) (jh GE hr rfl (ja (pv 0) jb) (je9 hh (by decide))))
   (jc (j6 (qg B.take cl r3 (pv 0) (ja jf jb)))
   (je (jp (pv 1)))))))),?_⟩
 have w:=R.wfr;obtain ⟨t,r,e1,e2,hk⟩:=yw c0 (by decide);subst e1;have lr:(t::r).length=r.length + 1:=rfl
 have op:next (isSign "(") (t::r)=true:=by rw [jgz w];exact dt_ c0
 have C1:Cell.Con (t::r) r 1 1:=Cell.x6 op;have h24:h < 24:=by
  have:=Cell.jcf (t:=t) (r:=r) (jel op (by decide +kernel)) dp;omega
 have dp':=dp1 C1 dp;cases n with
 | zero=>omega
 | succ n =>
  have aa:a0 D X rd H Q E (ql D) (inBrackets n r):=by
   rw [<- jnq w hk];exact aa
  refine zi R c0 λ_ H1 b1 R1 _=>?_;have R1:a8 D X rd H1 r:=R1
  cases n with
  | zero=>omega
  | succ n =>
   rw [inBrackets,jem R1.wfr,jmo R1.wfr] at aa;refine zj R1 ⟨rfl,_,rfl,qd (λc=>?_) (λc=>?_)⟩
   ·have c:=wo c;rw [dt_ c,if_pos rfl] at aa;refine zi R1 c λ_ H2 b2 R2 _=>?_;refine y9 R2 (jc2 R2.wfr) (x_ aa λr3 he3 aa _ H3 b3 R3=>?_);have ap:=(b1.trans b2).trans b3
    refine ⟨by decide,λl1 m1=>⟨by decide,λl2 m2=>⟨by decide,λl3 m3=>?_⟩⟩⟩;exact jd2 (xc ap R3) R3.st m1 m2 m3 ⟨by decide,by decide,by decide⟩ .nil jbe zt λz H9 sm nd=>aa _ _ (ap.then sm) (R3.same sm) nd
   have c:=jac c;rw [df_ c,if_neg Bool.false_ne_true] at aa;have fin:(decide (jq r = "NAME") && next (isSign ":") (r.drop 1))=false->jci (ji8 (ym (a9 D 11 N (h + 1) [] Any Vanbka.expr (ql D)) [] E (qk (qy 0) xh)) (ja7 1)) (jci (jrl (vj D.CR "take" (jat D.CF D.CT D.CR) [] E (qy 0) (qk (tC (.str ")")) xh))) (jge (qy 1))) { nx:=λ_ H'=>Q .non H',rt:=Q } [some (.ref rd),none] H1:=by
    intro z;rw [z,if_neg Bool.false_ne_true] at aa;refine ⟨_,rfl,X,rd,r,n,by omega,rfl,⟨R1,dp',by omega,by omega,sz⟩,trivial,q_ aa λe r2 he aa v H2 b2 R2 n2=>?_⟩;refine y9 R2 (jc2 R2.wfr) (x_ aa λr3 he3 aa _ H3 b3 R3=>?_);exact ⟨_,rfl,aa _ _ ((b1.trans b2).trans b3) R3 (jz.same ((yf b1 R1).trans (xz R b3)) _ _ n2)⟩
   refine zj R1 ⟨rfl,_,rfl,qd (λk1=>?_) (λk1=>?_)⟩
   ·have k1:=wo k1;obtain ⟨t2,r2,e3,e4,_⟩:=yw k1 (by decide);have R1':=R1
    rw [e3] at R1';have wr2:bc r2:=λy hy=>R1.wfr y (by rw [e3];exact List.mem_cons_of_mem _ hy)
    refine jx0 R1' ⟨rfl,_,rfl,qd (λk2=>?_) (λk2=>?_)⟩
    ·have k2:=wo k2;have e5:(decide (jq r = "NAME") && next (isSign ":") (r.drop 1))=true:=by rw [e4,jem wr2,dt_ k1,dt_ k2];rfl
     rw [e5,if_pos rfl] at aa;exact ⟨_,rfl,X,rd,r,n,by omega,rfl,⟨R1,dp',by omega,by omega,sz⟩,trivial,jgv b1 R1 aa⟩
    ·have k2:=jac k2;refine fin ?_;rw [e4,jem wr2,df_ k2,Bool.and_false]
   ·have k1:=jac k1;refine qd (λz=>absurd z (by decide)) (λ_=>fin ?_);rw [df_ k1,Bool.false_and]
abbrev jb2:PySem.Stmt:=top 45
abbrev jcl:PySem.Stmt:=top 46
def jan(g j:Nat)(r:qb):Except Nat (Exprs×qb):=if j=0 then (eat (isSign ")") r >>= λr=>pure (.nil,r)) else (eat (isSign ",") r >>= λr=>parts g j r)
theorem jki(g k:Nat)(h:1<=k)(ts:qb):parts (g + 1) k ts=Vanbka.expr g ts >>= λp=>jan g (k - 1) p.2 >>= λu=>pure (.cons p.1 u.1,u.2):=by
 rw [parts];cases Vanbka.expr g ts with
 | error l=>rfl
 | ok p =>
  show (if k<=1 then _ else _)=(jan g (k - 1) p.2 >>= _)
  unfold jan;by_cases c:k<=1
  ·rw [if_pos c,if_pos (by omega)];cases eat (isSign ")") p.2 <;> rfl
  ·rw [if_neg c,if_neg (by omega)];cases eat (isSign ",") p.2 with
   | error l=>rfl
   | ok r =>
    show (parts g (k - 1) r >>= _)=(parts g (k - 1) r >>= _)
    rfl
def jf_(w:World)(K:W.Frag)(mg:Str->Option Value):Prop:=∃ a ae,mg "BUILT_IN"=some (.ref a)/\jct w K a ae/\∀ z:Str,zf ae (.inr z)=(vq.lookup z).map λ(m:Nat)=>V.int (m:Int)
theorem jqo:jv ["reader", "kind", "parts"] ["reader"] (jj jcl):=fs_
theorem jxr(Kn:jr K mg "read_built_in" ["reader"] jcl)(B:z_ P w K mg base D)(U:jf_ w K mg)(I:vg P w K mg base D N)(h:Nat) :
  ax P w K mg base (xy h 9) "read_built_in" ["reader"] (a9 D 1 (N + 1) h [] (λrs=>(vq.lookup (jq rs)).isSome=true) simple (ql D)):=by
 refine zk (r:=8) Kn jqo (λ_ _ _ _ q=>q.len) (λ_ _ _ _ q=>q.le) λhh f ac A outer s H vs Q E hr q=>?_;obtain ⟨X,rd,rs,n,hn,rfl,pre,c0,aa⟩:=q;obtain ⟨R,dp,_,fu,sz⟩:=pre;have cl:=B.rd.c.cl
 have nd:=jqo.nd;have r3:xw 3 _:=hr.mono (by omega)
 have GE:=I.expr (h + 1);obtain ⟨ua,ae,mU,dU,vU⟩:=U;refine ⟨_,(jc (ju (i:=1) nd rfl (Or.inl rfl) (xf B.move cl r3 (pv 0)))
   (jc (j6 (qg B.take cl r3 (pv 0) (ja jf jb)))
   (jc (ju (i:=2) nd rfl (Or.inl rfl) (j5 (ja (jh GE hr rfl (ja (pv 0) jb) (je9 hh (by decide))) jb)))
   (jc (z6 jad (js jgw (ye xu rfl B.ml PySem.boot_len (ja (pv 2) jb)) (jc1 (vc mU rfl) (pv 1) (λ_ _=>rfl)) (j9 _)) (jc (j6 (qg B.take cl r3 (pv 0) (ja jf jb)))
   (je (j6 (vd PySem.F.plainAttrs_list PySem.F.slot_list_append PySem.F.type_list_append zh (pv 2) (ja (jh GE hr rfl (ja (pv 0) jb) (je9 hh (by decide))) jb))))))
   (jc (j6 (qg B.take cl r3 (pv 0) (ja jf jb)))
   (je (jp (yp B r3 rfl (ja (pv 1) (ja (j5 jb) (ja (pv 2) (ja (j5 jb) jb)))))))))))),?_⟩
 have w:=R.wfr;obtain ⟨k,hb⟩:=Option.isSome_iff_exists.mp c0;cases rs with
 | nil=>cases hb
 | cons t r =>
 have hb:vq.lookup (jy t.lex)=some k:=hb;have lr:(t::r).length=r.length + 1:=rfl
 cases n with
 | zero=>omega
 | succ n =>
  obtain ⟨p,kp,l1,l3,es⟩:=jpi (n:=n) w hb;have aa:a0 D X rd H Q E (ql D) (eat (isSign "(") r >>= λr=>parts n k r >>= λu=>pure (.prim p u.1,u.2)):=by rw [<- es];exact aa
  have C0:Cell.Con (t::r) r 0 1:=by
   have:=Cell.Con.one t r;have z:Cell.bw t=0:=by
    have wf:Wf t.lex:=w t (.head _);have:∀ l∈jai,(vq.lookup (jy l)).isSome=true->Cell.bw { lex:=l,place:=0,len:=0 }=0:=by decide +kernel
    rcases jab wf with hf | ⟨x,e,u⟩ | ⟨v,e⟩ | ⟨x,e⟩
    ·exact this t.lex hf (by rw [hb];rfl)
    ·rw [e,zr u] at hb;have hb:(none:Option Nat)=some k:=hb
     cases hb
    ·rw [e] at hb;have hb:(none:Option Nat)=some k:=hb
     cases hb
    ·rw [e] at hb;have hb:(none:Option Nat)=some k:=hb
     cases hb
   rw [z] at this;exact this
  refine jf4 R λH1 b1 R1=>?_;refine y9 R1 (jgz R1.wfr) (x_ aa λr2 he2 aa _ H2 b2 R2=>?_);have op:next (isSign "(") r=true:=by
   unfold eat at he2;split at he2
   ·assumption
   ·cases he2
  have C2:Cell.Con r r2 1 1:=vm (by rw [<- Cell.jd4];exact Cell.qt) he2;have lC2:=C2.len
  have h24:h < 24:=by
   obtain ⟨t',r',e',_,_⟩:=Cell.jcc op;rw [e'] at op;have d0:=dp0 C0 dp
   rw [e'] at d0;have:=Cell.jcf (jel op (by decide +kernel)) d0
   omega
  have dp2:=dp1 C2 (dp0 C0 dp);have ao:=b1.trans b2
  cases n with
  | zero=>omega
  | succ n =>
   have aa:a0 D X rd H Q E (ql D) (Vanbka.expr n r2 >>= λp'=>jan n (k - 1) p'.2 >>= λu=>pure (.prim p (.cons p'.1 u.1),u.2)):=by
    rw [jki n k l1] at aa;cases h1:Vanbka.expr n r2 with
    | error l=>rw [h1] at aa;exact aa
    | ok q =>
     rw [h1] at aa;have aa:a0 D X rd H Q E (ql D) ((jan n (k - 1) q.2 >>= λu=>pure (.cons q.1 u.1,u.2)) >>= λu=>pure (.prim p u.1,u.2)):=aa
     show a0 D X rd H Q E (ql D) (jan n (k - 1) q.2 >>= λu=>pure (.prim p (.cons q.1 u.1),u.2));cases h2:jan n (k - 1) q.2 with
     | error l=>rw [h2] at aa;exact aa
     | ok u=>rw [h2] at aa;exact aa
   refine ⟨_,rfl,X,rd,r2,n,by omega,rfl,⟨R2,dp2,by omega,by omega,sz⟩,trivial,q_ aa λe r3 he3 aa v H3 b3 R3 n3=>?_⟩;have C3:=yl ((Cell.jae n).expr r2) he3
   have lC3:=C3.len;refine ⟨(by show 1<=2 ^ 24;decide),λl ml=>?_⟩;have ap:=ao.trans b3
   have mlT:=ze R3.st ml;have aj:=R3.ne ml
   have mlH:=xc ap R3 l ml;have R0:a8 D X rd (upd H l (.lst [])) (t::r):=R.updn mlT aj
   have hal:=R.len;have eV:zf ae (.inr (jy t.lex))=some (.int (k:Int)):=by rw [vU,hb];rfl
   refine ⟨λm σ H'=>∃ (g j:Nat) (r:qb) (done:List Vanbka.Expr) (vs:List V),σ=[some (.ref rd),some (.str (jy t.lex)),some (.ref l)]/\a7 rd H H'/\a8 D X rd H' r/\tooDeepAt ((h + 1:Nat):Int) r=none/\16 * r.length + 1<=g/\g<=N/\m=r.length/\H' l=some (.lst vs)/\ji D.CN (ay X.T (upd H l (.lst [])) H') (done.map jx) vs/\vs.length + j=k/\
     a0 D X rd H Q E (ql D) (jan g j r >>= λu=>pure (.prim p (jaf done u.1),u.2)),
    ⟨_,n,k - 1,r3,[e],[v],rfl,ap.updn mlH,R3.updn mlT aj,dp0 C3 dp2,by omega,by omega,rfl,jd,wj (jz.same ?_ _ _ n3),by rw [List.length_singleton];omega,aa⟩,?_⟩
   ·refine jbh λb o z1 z2=>?_;have n2:b≠l:=λy=>by rw [y,ml] at z2;cases z2
    exact ⟨by rw [jm n2];exact xc ao R2 b z1,by rw [jm n2];exact z2⟩
   clear aa n3 R3 b3 C3 lC3 he3 ap ml;rintro m σ H' ⟨g,j,r,done,vs,rfl,bt,R',dp',fg,gN,rfl,hl,hN,hj,aa⟩;refine ⟨_,rfl,l,vs,rfl,.inl (az.of hl),_,rfl,ua,ae,.inr (jy t.lex),_,rfl,dU,rfl,eV,_,_,rfl,rfl,_,rfl,qd (λc=>?_) (λc=>?_)⟩
   ·have c:=ot_ c;have j0:j≠0:=by omega
    unfold jan at aa;rw [if_neg j0] at aa;refine ⟨λσ H'=>∃ m,m < r.length/\∃ (g j:Nat) (r:qb) (done:List Vanbka.Expr) (vs:List V),σ=[some (.ref rd),some (.str (jy t.lex)),some (.ref l)]/\a7 rd H H'/\a8 D X rd H' r/\tooDeepAt ((h + 1:Nat):Int) r=none/\16 * r.length + 1<=g/\g<=N/\m=r.length/\H' l=some (.lst vs)/\ji D.CN (ay X.T (upd H l (.lst [])) H') (done.map jx) vs/\vs.length + j=k/\
     a0 D X rd H Q E (ql D) (jan g j r >>= λu=>pure (.prim p (jaf done u.1),u.2)),λ_ _ z=>z,?_⟩
    have aa:a0 D X rd H Q E (ql D) (eat (isSign ",") r >>= λr=>parts g j r >>= λu=>pure (.prim p (jaf done u.1),u.2)):=by
     cases h1:eat (isSign ",") r with
     | error l=>rw [h1] at aa;exact aa
     | ok r'=>rw [h1] at aa;exact aa
    refine y9 R' (jaz R'.wfr) (x_ aa λr4 he4 aa _ H4 b4 R4=>?_);have C4:=vm Cell.qt he4
    have lC4:=C4.len;have b04:=bt.trans b4
    have hl4:H4 l=some (.lst vs):=b4 _ _ hl aj;cases g with
    | zero=>omega
    | succ g =>
     have aa:a0 D X rd H Q E (ql D) (Vanbka.expr g r4 >>= λp'=>jan g (j - 1) p'.2 >>= λu=>pure (.prim p (jaf (done ++ [p'.1]) u.1),u.2)):=by
      rw [jki g j (by omega)] at aa;cases h1:Vanbka.expr g r4 with
      | error l=>rw [h1] at aa;exact aa
      | ok q =>
       rw [h1] at aa;have aa:a0 D X rd H Q E (ql D) ((jan g (j - 1) q.2 >>= λu=>pure (.cons q.1 u.1,u.2)) >>= λu=>pure (.prim p (jaf done u.1),u.2)):=aa
       show a0 D X rd H Q E (ql D) (jan g (j - 1) q.2 >>= λu=>pure (.prim p (jaf (done ++ [q.1]) u.1),u.2));cases h2:jan g (j - 1) q.2 with
       | error l=>rw [h2] at aa;exact aa
       | ok u =>
        rw [h2] at aa;show a0 D X rd H Q E (ql D) (.ok (.prim p (jaf (done ++ [q.1]) u.1),u.2))
        rw [jmz];exact aa
     refine ⟨_,rfl,.inl ⟨rfl,_,az.of hl4⟩,_,rfl,X,rd,r4,g,by omega,rfl,⟨R4,dp0 C4 dp',by omega,by omega,sz⟩,trivial,q_ aa λe5 r5 he5 aa v5 H5 b5 R5 n5=>?_⟩;have C5:=yl ((Cell.jae g).expr r4) he5
     have lC5:=C5.len;have hl5:H5 l=some (.lst vs):=b5 _ _ hl4 aj
     refine ⟨l,_,_,rfl,rfl,hl5,(by show vs.length < 2 ^ 24;omega),r5.length,by omega,g,j - 1,r5,done ++ [e5],vs ++ [v5],rfl,(b04.trans b5).updn mlH,R5.updn mlT aj,dp0 C5 (dp0 C4 dp'),by omega,by omega,rfl,jd,?_,by rw [List.length_append,List.length_singleton];omega,aa⟩;rw [List.map_append];exact ji.snoc (jz.same (jcg b04 R4 hl4) _ _ n5) _ _ (ji.same (jep R0 jd (b4.trans b5)) _ _ hN)
   ·have c:¬ ((vs.length:Int) < (k:Int)):=λz=>c (dt_ z);have j0:j=0:=by omega
    unfold jan at aa;rw [if_pos j0] at aa;have aa:a0 D X rd H Q E (ql D) (eat (isSign ")") r >>= λr=>pure (.prim p (jaf done .nil),r)):=by
     cases h1:eat (isSign ")") r with
     | error l=>rw [h1] at aa;exact aa
     | ok r'=>rw [h1] at aa;exact aa
    refine y9 R' (jc2 R'.wfr) (x_ aa λr4 he4 aa _ H4 b4 R4=>?_);have b04:=bt.trans b4
    have hl4:H4 l=some (.lst vs):=b4 _ _ hl aj;have gr:=xc b04 R4
    refine ⟨_,rfl,by decide,λla ma=>⟨_,rfl,by decide,λlb mb=>?_⟩⟩;have s1:jg H4 (upd H4 la (.lst [])):=jo ma _
    have s2:jg (upd H4 la (.lst [])) (upd (upd H4 la (.lst [])) lb (.lst [])):=jo mb _;refine yu (ls:=[]) (ps:=y6 (jaf done .nil)) (bs:=[]) (λb z=>gr b (jk (s1.trans s2) z)) (R4.st.trans (s1.trans s2)) (j_ (jk R4.st ma) (gr _ ma) (s2 _ _ jd)) (j_ mlT mlH ((s1.trans s2) _ _ hl4)) (j_ (jk (R4.st.trans s1) mb) (gr _ (jk s1 mb)) jd) ⟨by decide,by omega,by decide⟩ .nil ?_ zt λz H9 sm nd=>?_
    ·rw [jkk];show ji _ _ (done.map jx ++ []) vs
     rw [List.append_nil];exact ji.same ((xz R0 b4).trans ((xg (s1.trans s2)).trans ww)) _ _ hN
    ·rw [kp] at nd;exact aa _ _ (b04.then ((s1.trans s2).trans sm)) (R4.same ((s1.trans s2).trans sm)) nd
theorem js8{h:Nat}{ts r:qb}{m:Nat}(c:Cell.Con ts r (-1) m)(q:tooDeepAt ((h + 1:Nat):Int) ts=none):tooDeepAt (h:Int) r=none:=by
 have:=c.deep q
 rwa [show ((h + 1:Nat):Int) + -1=(h:Int) by omega] at this
theorem jkf{ts:qb}:Cell.Res (wu Vanbka.name Vanbka.namesMore ts) ts 0 1:=by
 unfold wu;refine Cell.Res.to (Cell.Res.bind (y:=0) (k:=0) Cell.za λx r _=>?_) rfl (by omega);exact Cell.Res.to (Cell.Res.bind (y:=0) (k:=0) (Cell.jdx _ _) λl r _=>Cell.Res.ret) rfl (by omega)
theorem jmi(ts:qb):Vanbka.params ts=(if next (isSign ")") ts then .ok ([],ts) else wu Vanbka.name Vanbka.namesMore ts) >>= λp=>eat (isSign ")") p.2 >>= λr=>pure (p.1,r):=by
 unfold Vanbka.params;by_cases c:next (isSign ")") ts=true
 ·rw [if_pos c,if_pos c];show _=(eat (isSign ")") ts >>= λr=>pure (([]:List Bytes),r))
  unfold eat;rw [if_pos c];rfl
 ·rw [if_neg c,if_neg c];unfold wu;cases Vanbka.name ts with
  | error l=>rfl
  | ok p =>
   obtain ⟨x,r⟩:=p;show (Vanbka.namesMore r.length r >>= _)=((Vanbka.namesMore r.length r >>= _) >>= _)
   cases Vanbka.namesMore r.length r <;> rfl
theorem j1s:jv ["reader", "leaves"] ["reader"] (jj jb2):=fs_
theorem j3r(Kn:jr K mg "read_function" ["reader"] jb2)(B:z_ P w K mg base D)(GV:ax P w K mg base 4 "read_leaves" ["reader", "kind"] (jb6 D "NAME" Vanbka.name Vanbka.namesMore))(I:vg P w K mg base D N)(h:Nat) :
  ax P w K mg base (xy h 9) "read_function" ["reader"] (a9 D 1 (N + 1) h [] (λrs=>jq rs = "fn") simple (ql D)):=by
 refine zk (r:=8) Kn j1s (λ_ _ _ _ q=>q.len) (λ_ _ _ _ q=>q.le) λhh f ac A outer s H vs Q E hr q=>?_;obtain ⟨X,rd,rs,n,hn,rfl,pre,c0,aa⟩:=q;obtain ⟨R,dp,_,fu,sz⟩:=pre;have cl:=B.rd.c.cl
 have nd:=j1s.nd;have r3:xw 3 _:=hr.mono (by omega)
 have GB:=I.block h;refine ⟨_,(jc (j6 (qg B.take cl r3 (pv 0) (ja jf jb)))
   (jc (ju (i:=1) nd rfl (Or.inl rfl) (j5 (ja (j5 jb) jb)))
   (jc (qi (js xi (xf B.look cl r3 (pv 0)) jf (j9 _)) (je (ju (i:=1) nd rfl (Or.inl rfl) (j5 (ja (qg B.take cl r3 (pv 0) (ja jf jb)) jb)))) j3)
   (jc (j6 (qg B.take cl r3 (pv 0) (ja jf jb)))
   (jc (qi (js jea (xf B.look cl r3 (pv 0)) jf (j9 _)) (je (j6 (vd PySem.F.plainAttrs_list PySem.F.slot_list_extend PySem.F.type_list_extend jcd (pv 1) (ja (jh GV hr rfl (ja (pv 0) (ja jf jb)) (by omega)) jb)))) j3)
   (jc (j6 (qg B.take cl r3 (pv 0) (ja jf jb)))
   (je (jp (yp B r3 rfl (ja jf (ja (pv 1) (ja (j5 jb) (ja (j5 (ja (jh GB hr rfl (ja (pv 0) jb) (xq hh (by decide))) jb)) jb))))))))))))),?_⟩
 have w:=R.wfr;obtain ⟨t,r,e1,e2,hk⟩:=yw c0 (by decide);subst e1;have lr:(t::r).length=r.length + 1:=rfl
 have C1:Cell.Con (t::r) r 0 1:=Cell.yi (s := "fn") (by rw [jy3 w];exact dt_ c0);cases n with
 | zero=>omega
 | succ n =>
 cases n with
 | zero=>omega
 | succ n =>
  have aa:a0 D X rd H Q E (ql D) (function (n + 1) r):=by
   rw [<- jt2 w hk];exact aa
  rw [function] at aa;dsimp only at aa;refine zi R c0 λ_ H1 b1 R1 _=>?_;have R1:a8 D X rd H1 r:=R1
  refine ⟨by decide,λl0 m0=>⟨(by show 1<=2 ^ 24;decide),λla ma=>?_⟩⟩;have s0:jg H1 (upd H1 l0 (.lst [])):=jo m0 _
  have s1:jg (upd H1 l0 (.lst [])) (upd (upd H1 l0 (.lst [])) la (.lst [.ref l0])):=jo ma _;have R1':=R1.same (s0.trans s1)
  have b1':=b1.then (s0.trans s1)
  have nn:=jmo R1.wfr;refine zj R1' ⟨rfl,_,rfl,qd (λc=>?_) (λc=>?_)⟩
  ·have c:=wo c;rw [dt_ c] at nn;rw [nn,if_pos rfl] at aa;obtain ⟨x,ex⟩:=Option.isSome_iff_exists.mp nn;have hnm:Vanbka.name r = .ok (x,r.drop 1):=by unfold Vanbka.name;rw [ex]
   have Cn:=yl Cell.za hnm;have lCn:=Cn.len
   rw [ex] at aa;refine jcq R1' ?_;rw [hnm];intro u H2 b2 Rx lf0;refine ⟨(by show 1<=2 ^ 24;decide),λla ma=>?_⟩;have ao:=b1'.trans b2
   have maT:=ze Rx.st ma;have mar:=Rx.ne ma
   have maH:=xc ao Rx la ma;have sx:jg H2 (upd H2 la (.lst [u])):=jo ma _
   have bx:=ao.then sx;have Rx:=Rx.same sx
   have hla:(upd H2 la (.lst [u])) la=some (.lst [u]):=jd;have dpx:=dp0 Cn (dp0 C1 dp)
   generalize ho:(some x:Option Bytes)=own at aa;have lf:qo (ay X.T (upd H la (.lst [])) (upd H2 la (.lst [u]))) (.bytes (own.getD [])) u:=by
    rw [<- ho];exact qo.same jbs lf0
   generalize hrx:r.drop 1=rx at aa Rx lCn dpx;have Rb:a8 D X rd (upd H la (.lst [])) (t::r):=R.updn maT mar
   refine y9 Rx (jgz Rx.wfr) (x_ aa λr2 he2 aa _ H2 b2 R2=>?_);have C2:Cell.Con rx r2 1 1:=vm (by rw [<- Cell.jd4];exact Cell.qt) he2
   have lC2:=C2.len;have dp2:=dp1 C2 dpx
   have ao:=bx.trans b2;have hla2:=b2 _ _ hla mar
   rw [jmi] at aa;have lf2:=qo.same (xz (T:=X.T) Rb b2) lf
   refine zj R2 ⟨rfl,_,rfl,qd (λc=>?_) (λc=>?_)⟩
   ·have c:=jnn c;rw [jc2 R2.wfr,df_ c,if_neg Bool.false_ne_true] at aa;have aa:a0 D X rd H Q E (ql D) (wu Vanbka.name Vanbka.namesMore r2 >>= λp=>eat (isSign ")") p.2 >>= λr=>block n r >>= λq=>pure (.fn own p.1 q.1,q.2)):=by
     cases h1:wu Vanbka.name Vanbka.namesMore r2 with
     | error l=>rw [h1] at aa;exact aa
     | ok p =>
      rw [h1] at aa;have aa:a0 D X rd H Q E (ql D) ((eat (isSign ")") p.2 >>= λr=>pure (p.1,r)) >>= λp=>block n p.2 >>= λq=>pure (.fn own p.1 q.1,q.2)):=aa
      show a0 D X rd H Q E (ql D) (eat (isSign ")") p.2 >>= λr=>block n r >>= λq=>pure (.fn own p.1 q.1,q.2));cases h2:eat (isSign ")") p.2 with
      | error l=>rw [h2] at aa;exact aa
      | ok r'=>rw [h2] at aa;exact aa
    refine ⟨_,rfl,.inl ⟨rfl,_,az.of hla2⟩,_,rfl,X,rd,r2,rfl,R2,sz,q_ aa λnl ry he3 aa v3 H3 b3 R3 n3=>?_⟩;obtain ⟨a3,ws,rfl,ha3,lw,pw⟩:=n3;have C3:=yl jkf he3
    have lC3:=C3.len;have hla3:=b3 _ _ hla2 mar
    have ha3':H3 a3=some (.lst ws):=jf8 R3.st _ _ ha3;have ap:=ao.trans b3
    refine ⟨la,a3,_,_,rfl,rfl,hla3,ha3',(by show 1 + ws.length<=2 ^ 24;omega),?_⟩;have by_:a7 rd H (upd H3 la (.lst ([u] ++ ws))):=ap.updn maH
    have Ry:a8 D X rd (upd H3 la (.lst ([u] ++ ws))) ry:=R3.updn maT mar;have hly:(upd H3 la (.lst ([u] ++ ws))) la=some (.lst ([u] ++ ws)):=jd
    have suy:([u] ++ ws).length<=1000:=by
     show (u::ws).length<=1000;rw [List.length_cons];omega
    have dpy:tooDeepAt ((h + 1:Nat):Int) ry=none:=dp0 C3 dp2;have ply:Paired (qo (ay X.T (upd H la (.lst [])) (upd H3 la (.lst ([u] ++ ws))))) (.bytes (own.getD [])::nl.map x8.bytes) ([u] ++ ws) :=
     .cons (qo.same (jep Rb jd b3) lf2) (Paired.mapP pw λ_ _ z=>qo.same (jcg ao R2 hla2) z)
    refine y9 Ry (jc2 Ry.wfr) (x_ aa λr5 he5 aa _ H5 b5 R5=>?_);have C5:Cell.Con ry r5 (-1) 1:=vm (by rw [<- Cell.jb1];exact Cell.qt) he5
    have lC5:=C5.len;have aq:=by_.trans b5
    have hl5:=b5 _ _ hly mar;refine ⟨_,rfl,by decide,λl2 m2=>?_⟩;have s5:jg H5 (upd H5 l2 (.lst [])):=jo m2 _
    have R5':=R5.same s5;have b05':=aq.then s5
    refine ⟨_,rfl,X,rd,r5,n,by omega,rfl,⟨R5',js8 C5 dpy,hh,by omega,sz⟩,trivial,q_ aa λss r6 he6 aa v6 H6 b6 R6 n6=>?_⟩;obtain ⟨a6,ws,rfl,ha6,lw,hN6⟩:=n6;have m2r:=R5.ne m2
    refine ⟨(by show 1<=2 ^ 24;decide),λl3 m3=>?_⟩;have b06:=b05'.trans b6
    have gr:=xc b06 R6;have hl6:=b6 _ _ (s5 _ _ hl5) mar
    have hl26:H6 l2=some (.lst []):=b6 _ _ jd m2r;have s6:jg H6 (upd H6 l3 (.lst [.ref a6])):=jo m3 _
    have g6:jg (ay X.T (upd H5 l2 (.lst [])) H6) (ay X.T H (upd H6 l3 (.lst [.ref a6]))):=(yf b05' R5').trans (xg s6);have gl:=((xz (T:=X.T) Rb ((b5.then s5).trans b6)).trans (xg s6)).trans (ww (T:=X.T) (H:=H) (l:=la) (o:=.lst []))
    exact yu (ls:=.bytes (own.getD [])::List.map x8.bytes _) (ps:=[]) (bs:=[xk ss]) (λb z=>gr b (jk s6 z)) (R6.st.trans s6) (j_ maT maH (s6 _ _ hl6)) (j_ (ze R5.st m2) (xc aq R5 l2 m2) (s6 _ _ hl26)) (j_ (jk R6.st m3) (gr _ m3) jd) ⟨suy,by decide,(by show 1<=1000;decide)⟩
     (Paired.mapP ply λ_ _ z=>qo.same gl z) jbe ⟨a6,ws,[],rfl,g6 _ _ ha6,by omega,ji.same g6 _ _ hN6,rfl⟩ λz H9 sm nd=>aa _ _ (b06.then (s6.trans sm)) (R6.same (s6.trans sm)) nd
   ·have c:=jno c;rw [jc2 R2.wfr,dt_ c,if_pos rfl] at aa;have aa:a0 D X rd H Q E (ql D) (eat (isSign ")") r2 >>= λr=>block n r >>= λq=>pure (.fn own [] q.1,q.2)):=by
     cases h2:eat (isSign ")") r2 with
     | error l =>
      have aa:a0 D X rd H Q E (ql D) ((eat (isSign ")") r2 >>= λr=>pure (([]:List Bytes),r)) >>= λp=>block n p.2 >>= λq=>pure (.fn own p.1 q.1,q.2)):=aa;rw [h2] at aa;exact aa
     | ok r' =>
      have aa:a0 D X rd H Q E (ql D) ((eat (isSign ")") r2 >>= λr=>pure (([]:List Bytes),r)) >>= λp=>block n p.2 >>= λq=>pure (.fn own p.1 q.1,q.2)):=aa;rw [h2] at aa;exact aa
    have by_:=ao;have Ry:=R2
    have hly:=hla2;have suy:[u].length<=1000:=by show 1<=1000;decide
    have dpy:=dp2;have ply:Paired (qo (ay X.T (upd H la (.lst [])) H2)) (.bytes (own.getD [])::List.map x8.bytes []) [u]:=.cons lf2 .nil
    refine y9 Ry (jc2 Ry.wfr) (x_ aa λr5 he5 aa _ H5 b5 R5=>?_);have C5:Cell.Con r2 r5 (-1) 1:=vm (by rw [<- Cell.jb1];exact Cell.qt) he5
    have lC5:=C5.len;have aq:=by_.trans b5
    have hl5:=b5 _ _ hly mar;refine ⟨_,rfl,by decide,λl2 m2=>?_⟩;have s5:jg H5 (upd H5 l2 (.lst [])):=jo m2 _
    have R5':=R5.same s5;have b05':=aq.then s5
    refine ⟨_,rfl,X,rd,r5,n,by omega,rfl,⟨R5',js8 C5 dpy,hh,by omega,sz⟩,trivial,q_ aa λss r6 he6 aa v6 H6 b6 R6 n6=>?_⟩;obtain ⟨a6,ws,rfl,ha6,lw,hN6⟩:=n6;have m2r:=R5.ne m2
    refine ⟨(by show 1<=2 ^ 24;decide),λl3 m3=>?_⟩;have b06:=b05'.trans b6
    have gr:=xc b06 R6;have hl6:=b6 _ _ (s5 _ _ hl5) mar
    have hl26:H6 l2=some (.lst []):=b6 _ _ jd m2r;have s6:jg H6 (upd H6 l3 (.lst [.ref a6])):=jo m3 _
    have g6:jg (ay X.T (upd H5 l2 (.lst [])) H6) (ay X.T H (upd H6 l3 (.lst [.ref a6]))):=(yf b05' R5').trans (xg s6);have gl:=((xz (T:=X.T) Rb ((b5.then s5).trans b6)).trans (xg s6)).trans (ww (T:=X.T) (H:=H) (l:=la) (o:=.lst []))
    exact yu (ls:=.bytes (own.getD [])::List.map x8.bytes _) (ps:=[]) (bs:=[xk ss]) (λb z=>gr b (jk s6 z)) (R6.st.trans s6) (j_ maT maH (s6 _ _ hl6)) (j_ (ze R5.st m2) (xc aq R5 l2 m2) (s6 _ _ hl26)) (j_ (jk R6.st m3) (gr _ m3) jd) ⟨suy,by decide,(by show 1<=1000;decide)⟩
     (Paired.mapP ply λ_ _ z=>qo.same gl z) jbe ⟨a6,ws,[],rfl,g6 _ _ ha6,by omega,ji.same g6 _ _ hN6,rfl⟩ λz H9 sm nd=>aa _ _ (b06.then (s6.trans sm)) (R6.same (s6.trans sm)) nd
  ·have c:=jac c;rw [df_ c] at nn;rw [nn,if_neg Bool.false_ne_true] at aa;have ex:nameNext r=none:=by
    cases hx:nameNext r with
    | none=>rfl
    | some x=>rw [hx] at nn;cases nn
   rw [ex] at aa;have maT:=ze (R1.same s0).st ma
   have mar:=(R1.same s0).ne ma;have maH:=xc b1 R1 la (jk s0 ma)
   have bx:=b1';have Rx:=R1'
   have hla:(upd (upd H1 l0 (.lst [])) la (.lst [.ref l0])) la=some (.lst [.ref l0]):=jd;have dpx:=dp0 C1 dp
   have n0:l0≠la:=λy=>by rw [<- y,jd] at ma;cases ma
   generalize ho:(none:Option Bytes)=own at aa;have lf:qo (ay X.T (upd H la (.lst [])) (upd (upd H1 l0 (.lst [])) la (.lst [.ref l0]))) (.bytes (own.getD [])) (V.ref l0):=by
    rw [<- ho];refine ⟨l0,rfl,j_ (ze R1.st m0) (by rw [jm n0];exact xc b1 R1 l0 m0) (by rw [jm n0,jd];rfl)⟩
   have Rb:a8 D X rd (upd H la (.lst [])) (t::r):=R.updn maT mar;refine y9 Rx (jgz Rx.wfr) (x_ aa λr2 he2 aa _ H2 b2 R2=>?_);have C2:Cell.Con r r2 1 1:=vm (by rw [<- Cell.jd4];exact Cell.qt) he2
   have lC2:=C2.len;have dp2:=dp1 C2 dpx
   have ao:=bx.trans b2;have hla2:=b2 _ _ hla mar
   rw [jmi] at aa;have lf2:=qo.same (xz (T:=X.T) Rb b2) lf
   refine zj R2 ⟨rfl,_,rfl,qd (λc=>?_) (λc=>?_)⟩
   ·have c:=jnn c;rw [jc2 R2.wfr,df_ c,if_neg Bool.false_ne_true] at aa;have aa:a0 D X rd H Q E (ql D) (wu Vanbka.name Vanbka.namesMore r2 >>= λp=>eat (isSign ")") p.2 >>= λr=>block n r >>= λq=>pure (.fn own p.1 q.1,q.2)):=by
     cases h1:wu Vanbka.name Vanbka.namesMore r2 with
     | error l=>rw [h1] at aa;exact aa
     | ok p =>
      rw [h1] at aa;have aa:a0 D X rd H Q E (ql D) ((eat (isSign ")") p.2 >>= λr=>pure (p.1,r)) >>= λp=>block n p.2 >>= λq=>pure (.fn own p.1 q.1,q.2)):=aa
      show a0 D X rd H Q E (ql D) (eat (isSign ")") p.2 >>= λr=>block n r >>= λq=>pure (.fn own p.1 q.1,q.2));cases h2:eat (isSign ")") p.2 with
      | error l=>rw [h2] at aa;exact aa
      | ok r'=>rw [h2] at aa;exact aa
    refine ⟨_,rfl,.inl ⟨rfl,_,az.of hla2⟩,_,rfl,X,rd,r2,rfl,R2,sz,q_ aa λnl ry he3 aa v3 H3 b3 R3 n3=>?_⟩;obtain ⟨a3,ws,rfl,ha3,lw,pw⟩:=n3;have C3:=yl jkf he3
    have lC3:=C3.len;have hla3:=b3 _ _ hla2 mar
    have ha3':H3 a3=some (.lst ws):=jf8 R3.st _ _ ha3;have ap:=ao.trans b3
    refine ⟨la,a3,_,_,rfl,rfl,hla3,ha3',(by show 1 + ws.length<=2 ^ 24;omega),?_⟩;have by_:a7 rd H (upd H3 la (.lst ([V.ref l0] ++ ws))):=ap.updn maH
    have Ry:a8 D X rd (upd H3 la (.lst ([V.ref l0] ++ ws))) ry:=R3.updn maT mar;have hly:(upd H3 la (.lst ([V.ref l0] ++ ws))) la=some (.lst ([V.ref l0] ++ ws)):=jd
    have suy:([V.ref l0] ++ ws).length<=1000:=by
     show (V.ref l0::ws).length<=1000;rw [List.length_cons];omega
    have dpy:tooDeepAt ((h + 1:Nat):Int) ry=none:=dp0 C3 dp2;have ply:Paired (qo (ay X.T (upd H la (.lst [])) (upd H3 la (.lst ([V.ref l0] ++ ws))))) (.bytes (own.getD [])::nl.map x8.bytes) ([V.ref l0] ++ ws) :=
     .cons (qo.same (jep Rb jd b3) lf2) (Paired.mapP pw λ_ _ z=>qo.same (jcg ao R2 hla2) z)
    refine y9 Ry (jc2 Ry.wfr) (x_ aa λr5 he5 aa _ H5 b5 R5=>?_);have C5:Cell.Con ry r5 (-1) 1:=vm (by rw [<- Cell.jb1];exact Cell.qt) he5
    have lC5:=C5.len;have aq:=by_.trans b5
    have hl5:=b5 _ _ hly mar;refine ⟨_,rfl,by decide,λl2 m2=>?_⟩;have s5:jg H5 (upd H5 l2 (.lst [])):=jo m2 _
    have R5':=R5.same s5;have b05':=aq.then s5
    refine ⟨_,rfl,X,rd,r5,n,by omega,rfl,⟨R5',js8 C5 dpy,hh,by omega,sz⟩,trivial,q_ aa λss r6 he6 aa v6 H6 b6 R6 n6=>?_⟩;obtain ⟨a6,ws,rfl,ha6,lw,hN6⟩:=n6;have m2r:=R5.ne m2
    refine ⟨(by show 1<=2 ^ 24;decide),λl3 m3=>?_⟩;have b06:=b05'.trans b6
    have gr:=xc b06 R6;have hl6:=b6 _ _ (s5 _ _ hl5) mar
    have hl26:H6 l2=some (.lst []):=b6 _ _ jd m2r;have s6:jg H6 (upd H6 l3 (.lst [.ref a6])):=jo m3 _
    have g6:jg (ay X.T (upd H5 l2 (.lst [])) H6) (ay X.T H (upd H6 l3 (.lst [.ref a6]))):=(yf b05' R5').trans (xg s6);have gl:=((xz (T:=X.T) Rb ((b5.then s5).trans b6)).trans (xg s6)).trans (ww (T:=X.T) (H:=H) (l:=la) (o:=.lst []))
    exact yu (ls:=.bytes (own.getD [])::List.map x8.bytes _) (ps:=[]) (bs:=[xk ss]) (λb z=>gr b (jk s6 z)) (R6.st.trans s6) (j_ maT maH (s6 _ _ hl6)) (j_ (ze R5.st m2) (xc aq R5 l2 m2) (s6 _ _ hl26)) (j_ (jk R6.st m3) (gr _ m3) jd) ⟨suy,by decide,(by show 1<=1000;decide)⟩
     (Paired.mapP ply λ_ _ z=>qo.same gl z) jbe ⟨a6,ws,[],rfl,g6 _ _ ha6,by omega,ji.same g6 _ _ hN6,rfl⟩ λz H9 sm nd=>aa _ _ (b06.then (s6.trans sm)) (R6.same (s6.trans sm)) nd
   ·have c:=jno c;rw [jc2 R2.wfr,dt_ c,if_pos rfl] at aa;have aa:a0 D X rd H Q E (ql D) (eat (isSign ")") r2 >>= λr=>block n r >>= λq=>pure (.fn own [] q.1,q.2)):=by
     cases h2:eat (isSign ")") r2 with
     | error l =>
      have aa:a0 D X rd H Q E (ql D) ((eat (isSign ")") r2 >>= λr=>pure (([]:List Bytes),r)) >>= λp=>block n p.2 >>= λq=>pure (.fn own p.1 q.1,q.2)):=aa;rw [h2] at aa;exact aa
     | ok r' =>
      have aa:a0 D X rd H Q E (ql D) ((eat (isSign ")") r2 >>= λr=>pure (([]:List Bytes),r)) >>= λp=>block n p.2 >>= λq=>pure (.fn own p.1 q.1,q.2)):=aa;rw [h2] at aa;exact aa
    have by_:=ao;have Ry:=R2
    have hly:=hla2;have suy:[V.ref l0].length<=1000:=by show 1<=1000;decide
    have dpy:=dp2;have ply:Paired (qo (ay X.T (upd H la (.lst [])) H2)) (.bytes (own.getD [])::List.map x8.bytes []) [V.ref l0]:=.cons lf2 .nil
    refine y9 Ry (jc2 Ry.wfr) (x_ aa λr5 he5 aa _ H5 b5 R5=>?_);have C5:Cell.Con r2 r5 (-1) 1:=vm (by rw [<- Cell.jb1];exact Cell.qt) he5
    have lC5:=C5.len;have aq:=by_.trans b5
    have hl5:=b5 _ _ hly mar;refine ⟨_,rfl,by decide,λl2 m2=>?_⟩;have s5:jg H5 (upd H5 l2 (.lst [])):=jo m2 _
    have R5':=R5.same s5;have b05':=aq.then s5
    refine ⟨_,rfl,X,rd,r5,n,by omega,rfl,⟨R5',js8 C5 dpy,hh,by omega,sz⟩,trivial,q_ aa λss r6 he6 aa v6 H6 b6 R6 n6=>?_⟩;obtain ⟨a6,ws,rfl,ha6,lw,hN6⟩:=n6;have m2r:=R5.ne m2
    refine ⟨(by show 1<=2 ^ 24;decide),λl3 m3=>?_⟩;have b06:=b05'.trans b6
    have gr:=xc b06 R6;have hl6:=b6 _ _ (s5 _ _ hl5) mar
    have hl26:H6 l2=some (.lst []):=b6 _ _ jd m2r;have s6:jg H6 (upd H6 l3 (.lst [.ref a6])):=jo m3 _
    have g6:jg (ay X.T (upd H5 l2 (.lst [])) H6) (ay X.T H (upd H6 l3 (.lst [.ref a6]))):=(yf b05' R5').trans (xg s6);have gl:=((xz (T:=X.T) Rb ((b5.then s5).trans b6)).trans (xg s6)).trans (ww (T:=X.T) (H:=H) (l:=la) (o:=.lst []))
    exact yu (ls:=.bytes (own.getD [])::List.map x8.bytes _) (ps:=[]) (bs:=[xk ss]) (λb z=>gr b (jk s6 z)) (R6.st.trans s6) (j_ maT maH (s6 _ _ hl6)) (j_ (ze R5.st m2) (xc aq R5 l2 m2) (s6 _ _ hl26)) (j_ (jk R6.st m3) (gr _ m3) jd) ⟨suy,by decide,(by show 1<=1000;decide)⟩
     (Paired.mapP ply λ_ _ z=>qo.same gl z) jbe ⟨a6,ws,[],rfl,g6 _ _ ha6,by omega,ji.same g6 _ _ hN6,rfl⟩ λz H9 sm nd=>aa _ _ (b06.then (s6.trans sm)) (R6.same (s6.trans sm)) nd
abbrev jdb:PySem.Stmt:=top 42
theorem jny:jv ["reader", "kind"] ["reader"] (jj jdb):=fs_
theorem jux(Kn:jr K mg "read_simple" ["reader"] jdb)(B:z_ P w K mg base D)(U:jf_ w K mg)
  (GL:∀ h,ax P w K mg base (xy h 22) "read_listed" ["reader", "closing"] (a9 D 12 (N + 1) h [.str "]"] Any (λn=>listed n "]") (jb4 D)))
  (GBr:∀ h,ax P w K mg base (xy h 9) "read_bracketed" ["reader"] (a9 D 1 (N + 1) h [] (λrs=>jq rs = "(") simple (ql D)))
  (GFn:∀ h,ax P w K mg base (xy h 9) "read_function" ["reader"] (a9 D 1 (N + 1) h [] (λrs=>jq rs = "fn") simple (ql D)))
  (GBi:∀ h,ax P w K mg base (xy h 9) "read_built_in" ["reader"] (a9 D 1 (N + 1) h [] (λrs=>(vq.lookup (jq rs)).isSome=true) simple (ql D))) (h:Nat) :
  ax P w K mg base (xy h 10) "read_simple" ["reader"] (a9 D 1 (N + 1) h [] Any simple (ql D)):=by
 refine zk (r:=9) Kn jny (λ_ _ _ _ q=>q.len) (λ_ _ _ _ q=>q.le) λhh f ac A outer s H vs Q E hr q=>?_;obtain ⟨X,rd,rs,n,hn,rfl,pre,c0,aa⟩:=q;obtain ⟨R,dp,_,fu,sz⟩:=pre;have cl:=B.rd.c.cl
 have nd:=jny.nd;have r3:xw 3 _:=hr.mono (by omega)
 have GL:=GL (h + 1);have GBr:=GBr h
 have GFn:=GFn h;have GBi:=GBi h
 obtain ⟨ua,ae,mU,dU,vU⟩:=U;obtain ⟨fI,au,T⟩:=B.fault;refine ⟨_,(jc (ju (i:=1) nd rfl (Or.inl rfl) (xf B.look cl r3 (pv 0)))
   (jc (qi (js zn (pv 1) (jbw (ja jf (ja jf (ja jf jb)))) rfl) (je (jp (yp B r3 rfl (ja (pv 1) (ja (j5 (ja (qg B.take cl r3 (pv 0) (ja (pv 1) jb)) jb)) (ja (j5 jb) (ja (j5 jb) jb))))))) j3)
   (jc (qi (js zn (pv 1) (jbw (ja jf (ja jf (ja jf jb)))) rfl) (je (jp (yp B r3 rfl (ja (xf B.move cl r3 (pv 0)) (ja (j5 jb) (ja (j5 jb) (ja (j5 jb) jb))))))) j3)
   (jc (qi (js xi (pv 1) jf (j9 _)) (jc (j6 (qg B.take cl r3 (pv 0) (ja jf jb)))
   (je (jp (yp B r3 rfl (ja jf (ja (j5 jb) (ja (jh GL hr rfl (ja (pv 0) (ja jf jb)) (je9 hh (by decide))) (ja (j5 jb) jb)))))))) j3)
   (jc (qi (js xi (pv 1) jf (j9 _)) (je (jp (jh GBr hr rfl (ja (pv 0) jb) (xq hh (by decide))))) j3)
   (jc (qi (js xi (pv 1) jf (j9 _)) (je (jp (jh GFn hr rfl (ja (pv 0) jb) (xq hh (by decide))))) j3)
   (jc (qi (js jhz (pv 1) (vc mU rfl) rfl) (je (jp (jh GBi hr rfl (ja (pv 0) jb) (xq hh (by decide))))) j3)
   (je (we T (r3.mono (by decide)) rfl (ja (qz B.cNo rfl) (ja (xf B.here cl r3 (pv 0)) jb))))))))))),?_⟩
 have w:=R.wfr;have aa:a0 D X rd H Q E (ql D) (simple n rs):=aa
 cases n with
 | zero=>omega
 | succ n =>
  refine zj R ?_;refine ⟨_,rfl,by decide,λp1 np1=>⟨p1,_,rfl,.inr (be.of jd),rfl,rfl,_,rfl,?_⟩⟩;have sp1:jg H (upd H p1 (.tup [.str "NUMBER",.str "QUOTED",.str "NAME"])):=jo np1 _
  rw [if_neg Bool.false_ne_true,show inV (.str (jq rs)) [.str "NUMBER",.str "QUOTED",.str "NAME"]=decide (jq rs∈(["NUMBER", "QUOTED", "NAME"]:List Str)) from jap _ ["NUMBER", "QUOTED", "NAME"]];generalize upd H p1 (.tup [.str "NUMBER",.str "QUOTED",.str "NAME"])=Ha at sp1;have Ra:=R.same sp1
  have ba:a7 rd H Ha:=(a7.refl rd H).then sp1;refine qd (λc=>?_) (λc1=>?_)
  ·have c:=ot_ c;cases rs with
   | nil=>exact absurd c (by decide)
   | cons t r =>
    have c:jy t.lex∈(["NUMBER", "QUOTED", "NAME"]:List Str):=c;have ke:jy t.lex≠"END":=λz=>by rw [z] at c;exact absurd c (by decide)
    have fin:∀ (x:Vanbka.Expr) (lf:x8),jx x = .mk (jy t.lex) [lf] [] []->(∀ v,jeh X.T t.lex v->qo X.T lf v)->a0 D X rd H Q E (ql D) (.ok (x,r))->
      jge (jm7 D.CN (jgg D.CN) [] E (qk (qy 1) (qk (jhg (qk (vj D.CR "take" (jat D.CF D.CT D.CR) [] E (qy 0) (qk (qy 1) xh)) xh)) (qk (jhg xh) (qk (jhg xh) xh))))) { nx:=λ_ H'=>Q .non H',rt:=Q } [some (.ref rd),some (.str (jy t.lex))] Ha:=by
     intro x lf en hl aa;refine ⟨_,rfl,zi Ra rfl (λv H1 b1 R1 tv=>?_) ke (λ_ q=>⟨_,rfl,q⟩)⟩;have R1:a8 D X rd H1 r:=R1
     have b01:=ba.trans b1;refine ⟨(by show 1<=2 ^ 24;decide),λl1 m1=>⟨by decide,λl2 m2=>⟨by decide,λl3 m3=>?_⟩⟩⟩;refine jd2 (xc b01 R1) R1.st m1 m2 m3 ⟨(by show 1<=1000;decide),by decide,by decide⟩ (.cons (qo.same jbs (hl v tv)) .nil) jbe zt λz H9 sm nd=>?_;rw [<- en] at nd;exact aa _ _ (b01.then sm) (R1.same sm) nd
    have si:=jba (n:=n) w;generalize simple (n + 1) (t::r)=res at si aa;cases si with
    | num v e k=>exact fin (.num v) (.int v) (by rw [k];rfl) (λu hu=>by rw [e] at hu;exact hu) aa
    | quo x e k=>exact fin (.quoted x) (.bytes x) (by rw [k];rfl) (λu hu=>by rw [e] at hu;exact hu) aa
    | name x e u k =>
     refine fin (.name x) (.bytes x) (by rw [k];rfl) (λv hu=>?_) aa;rw [e] at hu;have hu:(if reserved.contains x then v = .non else ∃ a,v = .ref a/\X.T a=some (.lst (vb x))):=hu
     rw [u,if_neg Bool.false_ne_true] at hu;exact hu
    | yes k=>rw [k] at c;exact absurd c (by decide)
    | no k=>rw [k] at c;exact absurd c (by decide)
    | none k=>rw [k] at c;exact absurd c (by decide)
    | list k=>rw [k] at c;exact absurd c (by decide)
    | brack k=>rw [k] at c;exact absurd c (by decide)
    | fn k=>rw [k] at c;exact absurd c (by decide)
    | prim p m k b l1 l3 =>
     rw [k] at c;exact absurd c (by cases p <;> decide)
    | bad k b =>
     refine absurd ?_ k;simp only [List.mem_cons,List.not_mem_nil,or_false] at c ⊢;rcases c with c | c | c
     ·exact .inl c
     ·exact .inr (.inl c)
     ·exact .inr (.inr (.inl c))
  have c1:¬ jq rs∈(["NUMBER", "QUOTED", "NAME"]:List Str):=λz=>c1 (dt_ z);refine ⟨_,rfl,by decide,λp2 np2=>⟨p2,_,rfl,.inr (be.of jd),rfl,rfl,_,rfl,?_⟩⟩;have sp2:jg Ha (upd Ha p2 (.tup [.str "yes",.str "no",.str "none"])):=jo np2 _
  rw [if_neg Bool.false_ne_true,show inV (.str (jq rs)) [.str "yes",.str "no",.str "none"]=decide (jq rs∈(["yes", "no", "none"]:List Str)) from jap _ ["yes", "no", "none"]];generalize upd Ha p2 (.tup [.str "yes",.str "no",.str "none"])=Hb at sp2;have Rb:=Ra.same sp2
  have bb:a7 rd H Hb:=ba.then sp2;refine qd (λc=>?_) (λc2=>?_)
  ·have c:=ot_ c;cases rs with
   | nil=>exact absurd c (by decide)
   | cons t r =>
    have c:jy t.lex∈(["yes", "no", "none"]:List Str):=c;have fin:∀ (x:Vanbka.Expr),jx x = .mk (jy t.lex) [] [] []->a0 D X rd H Q E (ql D) (.ok (x,r))->
      jge (jm7 D.CN (jgg D.CN) [] E (qk (vj D.CR "move_on" (jhj D.CT D.CR) [] E (qy 0) xh) (qk (jhg xh) (qk (jhg xh) (qk (jhg xh) xh))))) { nx:=λ_ H'=>Q .non H',rt:=Q } [some (.ref rd),some (.str (jy t.lex))] Hb:=by
     intro x en aa;refine jf4 Rb λH1 b1 R1=>?_;have b01:=bb.trans b1
     refine ⟨by decide,λl1 m1=>⟨by decide,λl2 m2=>⟨by decide,λl3 m3=>?_⟩⟩⟩;refine jd2 (xc b01 R1) R1.st m1 m2 m3 ⟨by decide,by decide,by decide⟩ .nil jbe zt λz H9 sm nd=>?_;rw [<- en] at nd;exact aa _ _ (b01.then sm) (R1.same sm) nd
    have si:=jba (n:=n) w;generalize simple (n + 1) (t::r)=res at si aa;cases si with
    | num v e k=>rw [k] at c;exact absurd c (by decide)
    | quo x e k=>rw [k] at c;exact absurd c (by decide)
    | name x e u k=>rw [k] at c;exact absurd c (by decide)
    | yes k=>exact fin (.truth true) (by rw [k];rfl) aa
    | no k=>exact fin (.truth false) (by rw [k];rfl) aa
    | none k=>exact fin .nothing (by rw [k];rfl) aa
    | list k=>rw [k] at c;exact absurd c (by decide)
    | brack k=>rw [k] at c;exact absurd c (by decide)
    | fn k=>rw [k] at c;exact absurd c (by decide)
    | prim p m k b l1 l3 =>
     rw [k] at c;exact absurd c (by cases p <;> decide)
    | bad k b =>
     refine absurd ?_ k;simp only [List.mem_cons,List.not_mem_nil,or_false] at c ⊢;rcases c with c | c | c
     ·exact .inr (.inr (.inr (.inl c)))
     ·exact .inr (.inr (.inr (.inr (.inl c))))
     ·exact .inr (.inr (.inr (.inr (.inr (.inl c)))))
  have c2:¬ jq rs∈(["yes", "no", "none"]:List Str):=λz=>c2 (dt_ z);refine ⟨_,rfl,rfl,_,rfl,qd (λc=>?_) (λc3=>?_)⟩
  ·have c:=wo c;obtain ⟨t,r,e1,e2,hk⟩:=yw c (by decide);subst e1;have lr:(t::r).length=r.length + 1:=rfl
   have op:next (isSign "[") (t::r)=true:=by rw [jlo w];exact dt_ c
   have C1:Cell.Con (t::r) r 1 1:=Cell.x6 op;have h24:h < 24:=by
    have:=Cell.jcf (t:=t) (r:=r) (jel op (by decide +kernel)) dp;omega
   have aa:a0 D X rd H Q E (ql D) (listed n "]" r >>= λq=>pure (.list q.1,q.2)):=by rw [<- jpj w hk];exact aa
   refine zi Rb c λ_ H1 b1 R1 _=>?_;have R1:a8 D X rd H1 r:=R1
   have b01:=bb.trans b1;refine ⟨by decide,λl1 m1=>?_⟩;have s1:jg H1 (upd H1 l1 (.lst [])):=jo m1 _
   have ao:=b01.then s1;refine ⟨_,rfl,X,rd,r,n,by omega,rfl,⟨R1.same s1,dp1 C1 dp,by omega,by omega,sz⟩,trivial,q_ aa λl r3 he aa v H3 b3 R3 n3=>?_⟩;obtain ⟨a,vs,rfl,ha,lv,hN⟩:=n3;refine ⟨by decide,λl3 m3=>?_⟩;have ap:=ao.trans b3
   have gr:=xc ap R3;have s3:jg H3 (upd H3 l3 (.lst [])):=jo m3 _
   have g3:jg (ay X.T (upd H1 l1 (.lst [])) H3) (ay X.T H (upd H3 l3 (.lst []))):=(yf ao (R1.same s1)).trans (xg s3);exact yu (ls:=[]) (ps:=y6 l) (bs:=[]) (λb z=>gr b (jk s3 z)) (R3.st.trans s3) (j_ (ze R1.st m1) (xc b01 R1 l1 m1) (s3 _ _ (b3 _ _ jd (R1.ne m1)))) (g3 _ _ ha) (j_ (jk R3.st m3) (gr _ m3) jd) ⟨by decide,by omega,by decide⟩ .nil (ji.same g3 _ _ hN) zt λz H9 sm nd=>aa _ _ (ap.then (s3.trans sm)) (R3.same (s3.trans sm)) nd
  have c3:=jac c3;refine ⟨_,rfl,rfl,_,rfl,qd (λc=>?_) (λc4=>?_)⟩
  ·exact ⟨_,rfl,X,rd,rs,n + 1,hn,rfl,⟨Rb,dp,hh,fu,sz⟩,wo c,jgv bb Rb aa⟩
  have c4:=jac c4;refine ⟨_,rfl,rfl,_,rfl,qd (λc=>?_) (λc5=>?_)⟩
  ·exact ⟨_,rfl,X,rd,rs,n + 1,hn,rfl,⟨Rb,dp,hh,fu,sz⟩,wo c,jgv bb Rb aa⟩
  have c5:=jac c5;refine ⟨_,rfl,ua,ae,.inr (jq rs),rfl,dU,rfl,_,rfl,?_⟩;rw [if_neg Bool.false_ne_true,vU,Option.isSome_map];refine qd (λc=>?_) (λc6=>?_)
  ·exact ⟨_,rfl,X,rd,rs,n + 1,hn,rfl,⟨Rb,dp,hh,fu,sz⟩,c,jgv bb Rb aa⟩
  have c6:vq.lookup (jq rs)=none:=by
   cases hx:vq.lookup (jq rs) with
   | none=>rfl
   | some m=>rw [hx] at c6;exact absurd rfl c6
  have aa:a0 D X rd H Q E (ql D) (halt_ rs):=by
   cases rs with
   | nil =>
    have e:simple (n + 1) []=halt_ []:=by rw [simple]
    rw [e] at aa;exact aa
   | cons t r =>
    have si:=jba (n:=n) w;generalize simple (n + 1) (t::r)=res at si aa;cases si with
    | num v e k=>exact absurd (show jq (t::r)∈_ by show jy t.lex∈_;rw [k];decide) c1
    | quo x e k=>exact absurd (show jq (t::r)∈_ by show jy t.lex∈_;rw [k];decide) c1
    | name x e u k=>exact absurd (show jq (t::r)∈_ by show jy t.lex∈_;rw [k];decide) c1
    | yes k=>exact absurd (show jq (t::r)∈_ by show jy t.lex∈_;rw [k];decide) c2
    | no k=>exact absurd (show jq (t::r)∈_ by show jy t.lex∈_;rw [k];decide) c2
    | none k=>exact absurd (show jq (t::r)∈_ by show jy t.lex∈_;rw [k];decide) c2
    | list k=>exact absurd k c3
    | brack k=>exact absurd k c4
    | fn k=>exact absurd k c5
    | prim p m k b l1 l3=>rw [show vq.lookup (jy t.lex)=none from c6] at b;cases b
    | bad k b=>exact aa
  exact jkm Rb (yz aa)
abbrev ja6:PySem.Stmt:=top 23
abbrev jd9:PySem.Stmt:=top 24
abbrev jbm:PySem.Stmt:=top 25
abbrev jcm:PySem.Stmt:=top 26
abbrev jcj:PySem.Stmt:=top 27
theorem jv0{ts r:qb}{z:Int}{m:Nat}(c:Cell.Con ts r z m)(w:bc ts):bc r:=by
 obtain ⟨p,rfl,_,_⟩:=c;exact λt ht=>w t (List.mem_append_right _ ht)
def jb8:List Vanbka.Stmt->Stmts->Stmts
 | [],m=>m
 | e::l,m=>.cons e (jb8 l m)
theorem jv7(l:List Vanbka.Stmt)(e:Vanbka.Stmt)(m:Stmts):jb8 (l ++ [e]) m=jb8 l (.cons e m):=by
 induction l with
 | nil=>rfl
 | cons x l ih=>exact congrArg (Stmts.cons x) ih
theorem jsj(l:List Vanbka.Stmt):xk (jb8 l .nil)=l.map yb:=by
 induction l with
 | nil=>rfl
 | cons x l ih=>show yb x::_=yb x::_;rw [ih]
def jd5:List Str:=["show", "table", "plot", "check", "do", "give"]
def jrf:Lex->Option Way
 | .word w=>if reserved.contains w then Vanbka.wayOf w else none
 | _=>none
def jft(z:Str):Option Way->Bool
 | some x=>decide (z∈jd5) && decide (z=jk_ x)
 | none=>decide (¬ z∈jd5)
theorem jtm:∀ l∈jai,jft (jy l) (jrf l)=true:=by decide +kernel
theorem ji6{ts:qb}(w:bc ts):jft (jq ts) ((wordNext ts).bind Vanbka.wayOf)=true:=by
 cases ts with
 | nil=>decide
 | cons t r =>
  obtain ⟨l,p,k⟩:=t;have wl:Wf l:=w _ (.head _)
  have e2:(wordNext (⟨l,p,k⟩::r)).bind Vanbka.wayOf=jrf l:=by
   cases l with
   | word x =>
    show (if reserved.contains x then some x else none).bind Vanbka.wayOf=if reserved.contains x then Vanbka.wayOf x else none
    cases reserved.contains x <;> rfl
   | _=>rfl
  rw [e2];show jft (jy l) (jrf l)=true
  rcases jab wl with hf | ⟨x,rfl,u⟩ | ⟨v,rfl⟩ | ⟨x,rfl⟩
  ·exact jtm l hf
  ·rw [zr u];have:jrf (.word x)=none:=by show (if reserved.contains x then _ else none)=none;rw [u];rfl
   rw [this];decide
  ·show jft "NUMBER" none=true;decide
  ·show jft "QUOTED" none=true;decide
theorem jqq:jv ["reader", "statements"] ["reader"] (jj jd9):=fs_
theorem jxt(Kn:jr K mg "read_block" ["reader"] jd9)(B:z_ P w K mg base D)(I:vg P w K mg base D N)(h:Nat) :
  ax P w K mg base (xy h 8) "read_block" ["reader"] (a9 D 1 (N + 1) h [] Any block (yy D)):=by
 refine zk (r:=7) Kn jqq (λ_ _ _ _ q=>q.len) (λ_ _ _ _ q=>q.le) λhh f ac A outer s H vs Q E hr q=>?_;obtain ⟨X,rd,rs,n,hn,rfl,pre,c0,aa⟩:=q;obtain ⟨R,dp,_,fu,sz⟩:=pre;have cl:=B.rd.c.cl
 have nd:=jqq.nd;have r3:xw 3 _:=hr.mono (by omega)
 have GS:=I.stmts (h + 1) "}" (.inr rfl);refine ⟨_,(jc (j6 (qg B.take cl r3 (pv 0) (ja jf jb)))
   (jc (ju (i:=1) nd rfl (Or.inl rfl) (jh GS hr rfl (ja (pv 0) (ja jf jb)) (je9 hh (by decide))))
   (jc (j6 (qg B.take cl r3 (pv 0) (ja jf jb)))
   (je (jp (pv 1)))))),?_⟩
 cases n with
 | zero=>omega
 | succ n =>
  rw [block] at aa;refine y9 R (j4w R.wfr) (x_ aa λr1 he1 aa _ H1 b1 R1=>?_);have op:next (isSign "{") rs=true:=by
   unfold eat at he1;split at he1
   ·assumption
   ·cases he1
  have C1:Cell.Con rs r1 1 1:=vm (by rw [<- Cell.jyu];exact Cell.qt) he1;have lC1:=C1.len
  have h24:h < 24:=by
   obtain ⟨t',r',e',_,_⟩:=Cell.jcc op;rw [e'] at op dp;have:=Cell.jcf (jel op (by decide +kernel)) dp
   omega
  have aa:a0 D X rd H Q E (yy D) (v9 "}" n r1 >>= λp=>eat (isSign "}") p.2 >>= λr=>pure (p.1,r)):=by
   unfold v9;cases hs:statements n r1 with
   | error l=>rw [hs] at aa;exact aa
   | ok p =>
    obtain ⟨ss,r2⟩:=p;rw [hs] at aa;have w2:=jv0 (yl ((Cell.jae n).statements r1) hs) R1.wfr
    have aa:a0 D X rd H Q E (yy D) (eat (isSign "}") r2 >>= λr=>pure (ss,r)):=aa;show a0 D X rd H Q E (yy D) ((if jq r2 = "}" then pure (ss,r2) else halt_ r2) >>= λp=>eat (isSign "}") p.2 >>= λr=>pure (p.1,r))
    by_cases c:jq r2 = "}"
    ·rw [if_pos c];exact aa
    ·rw [if_neg c];unfold eat at aa;rw [jsh w2,df_ c,if_neg Bool.false_ne_true] at aa;exact aa
  refine ⟨_,rfl,X,rd,r1,n,by omega,rfl,⟨R1,dp1 C1 dp,by omega,by omega,sz⟩,trivial,q_ aa λss r2 he2 aa v H2 b2 R2 n2=>?_⟩;refine y9 R2 (jsh R2.wfr) (x_ aa λr3 he3 aa _ H3 b3 R3=>?_);obtain ⟨a,vs,rfl,ha,lv,hN⟩:=n2;have g:jg (ay X.T H1 H2) (ay X.T H H3):=(yf b1 R1).trans (xz R b3)
  exact ⟨_,rfl,aa _ _ ((b1.trans b2).trans b3) R3 ⟨a,vs,rfl,g _ _ ha,lv,ji.same g _ _ hN⟩⟩
theorem jt0{n:Nat}{r:qb}(w:bc r)(c:jq r = "END"\/jq r = "}"):statement (n + 1) r=halt_ r:=by
 have hw:(wordNext r).bind Vanbka.wayOf=none:=by
  have:=ji6 w;cases hx:(wordNext r).bind Vanbka.wayOf with
  | none=>rfl
  | some x =>
   rw [hx] at this;have z:jq r∈jd5:=ot_ (Bool.and_eq_true_iff.mp this).1
   rcases c with c | c <;> rw [c] at z <;> exact absurd z (by decide)
 rw [statement];dsimp only;rw [jbz w,jby w,jed w,jao w,jco w,w9 w,w_ w,hw];rcases c with c | c <;> rw [c] <;> rfl
theorem jj2{n:Nat}{r:qb}(w:bc r)(c:jq r = "END"\/jq r = "}"):statements (n + 1) r = .ok (.nil,r):=by
 rw [statements,jsh w];cases r with
 | nil=>rfl
 | cons t r =>
  rcases c with c | c
  ·exact absurd c (jkp (w t (.head _)))
  ·rw [dt_ c];rfl
theorem jwl{n:Nat}{r:qb}(w:bc r)(c1:jq r≠"END")(c2:jq r≠"}"):statements (n + 1) r=statement n r >>= λp=>statements n p.2 >>= λq=>pure (.cons p.1 q.1,q.2):=by
 rw [statements,jsh w,df_ c2];cases r with
 | nil=>exact absurd rfl c1
 | cons t r=>rfl
theorem jqi:jv ["reader", "closing", "statements", "place", "statement"] ["reader", "closing"] (jj ja6):=fs_
theorem jxi{z:Str}(hz:z = "END"\/z = "}")(Kn:jr K mg "read_statements" ["reader", "closing"] ja6)(B:z_ P w K mg base D)(I:vg P w K mg base D N)(h:Nat) :
  ax P w K mg base (xy h 24) "read_statements" ["reader", "closing"] (a9 D 2 (N + 1) h [.str z] Any (v9 z) (yy D)):=by
 refine zk (r:=23) Kn jqi (λ_ _ _ _ q=>q.len) (λ_ _ _ _ q=>q.le) λhh f ac A outer s H vs Q E hr q=>?_;obtain ⟨X,rd,rs,n,hn,rfl,pre,c0,aa⟩:=q;obtain ⟨R,dp,_,fu,sz⟩:=pre;have cl:=B.rd.c.cl
 have nd:=jqi.nd;have r3:xw 3 _:=hr.mono (by omega)
 have G:=I.stmt h;obtain ⟨_,_,TN,_⟩:=B.tree;refine ⟨_,(jc (ju (i:=2) nd rfl (Or.inl rfl) (j5 jb))
   (jc (z6 jad (js jea (xf B.look cl r3 (pv 0)) (pv 1) (j9 _))
    (jc (ju (i:=3) nd rfl (Or.inl rfl) (xf B.here cl r3 (pv 0)))
    (jc (ju (i:=4) nd rfl (Or.inl rfl) (jh G hr rfl (ja (pv 0) jb) (xq hh (by decide))))
    (jc (v_ (pv 4) (pv 3) rfl)
    (jc (v_ (pv 4) (xf B.last cl r3 (pv 0)) rfl)
    (je (j6 (vd PySem.F.plainAttrs_list PySem.F.slot_list_append PySem.F.type_list_append zh (pv 2) (ja (pv 4) jb)))))))))
   (je (jp (pv 2))))),?_⟩
 refine ⟨by decide,λl ml=>?_⟩;have mlT:=ze R.st ml
 have aj:=R.ne ml;have R1:a8 D X rd (upd H l (.lst [])) rs:=R.same (jo ml _)
 have hal:=R.len;refine ⟨λm σ H'=>∃ (g:Nat) (r:qb) (done:List Vanbka.Stmt) (vs:List V) (v3 v4:Option V),σ=[some (.ref rd),some (.str z),some (.ref l),v3,v4]/\a7 rd H H'/\a8 D X rd H' r/\tooDeepAt (h:Int) r=none/\16 * r.length + 2<=g/\g<=N + 1/\m=r.length/\H' l=some (.lst vs)/\ji D.CN (ay X.T (upd H l (.lst [])) H') (done.map yb) vs/\vs.length + r.length<=X.all.length/\
   a0 D X rd H Q E (yy D) (v9 z g r >>= λp=>pure (jb8 done p.1,p.2)),
  ⟨_,n,rs,[],[],none,none,rfl,(a7.refl rd H).then (jo ml _),R1,dp,fu,hn,rfl,jd,jbe,by simpa using hal,?_⟩,?_⟩
 ·have aa:a0 D X rd H Q E (yy D) (v9 z n rs):=aa;cases hs:v9 z n rs with
  | error l=>rw [hs] at aa;exact aa
  | ok p=>rw [hs] at aa;exact aa
 rintro m σ H' ⟨g,r,done,vs,v3,v4,rfl,bt,R',dp',fg,gN,rfl,hl,hN,hsz,aa⟩;have w':=R'.wfr
 cases g with
 | zero=>omega
 | succ g =>
  refine zj R' ⟨_,rfl,rfl,_,rfl,qd (λc=>?_) (λc=>?_)⟩
  ·have c:=jnn c;refine ⟨λσ H'=>∃ m,m < r.length/\∃ (g:Nat) (r:qb) (done:List Vanbka.Stmt) (vs:List V) (v3 v4:Option V),σ=[some (.ref rd),some (.str z),some (.ref l),v3,v4]/\a7 rd H H'/\a8 D X rd H' r/\tooDeepAt (h:Int) r=none/\16 * r.length + 2<=g/\g<=N + 1/\m=r.length/\H' l=some (.lst vs)/\ji D.CN (ay X.T (upd H l (.lst [])) H') (done.map yb) vs/\vs.length + r.length<=X.all.length/\
    a0 D X rd H Q E (yy D) (v9 z g r >>= λp=>pure (jb8 done p.1,p.2)),λ_ _ z=>z,?_⟩
   have aa:a0 D X rd H Q E (yy D) (statement g r >>= λp=>v9 z g p.2 >>= λq=>pure (jb8 (done ++ [p.1]) q.1,q.2)):=by
    by_cases ce:jq r = "END"\/jq r = "}"
    ·unfold v9 at aa;rw [jj2 w' ce] at aa;cases g with
     | zero=>omega
     | succ g =>
      rw [jt0 w' ce];have aa:a0 D X rd H Q E (yy D) ((if jq r=z then pure (Stmts.nil,r) else halt_ r) >>= λp=>pure (jb8 done p.1,p.2)):=aa
      rw [if_neg c] at aa;exact aa
    ·have ce:=not_or.mp ce;unfold v9 at aa;rw [jwl w' ce.1 ce.2] at aa;cases h1:statement g r with
     | error l=>rw [h1] at aa;exact aa
     | ok p =>
      obtain ⟨st,r2⟩:=p;rw [h1] at aa;show a0 D X rd H Q E (yy D) (v9 z g r2 >>= λq=>pure (jb8 (done ++ [st]) q.1,q.2))
      unfold v9;have aa:a0 D X rd H Q E (yy D) (((statements g r2 >>= λq=>pure (.cons st q.1,q.2)) >>= λp=>if jq p.2=z then pure (p.1,p.2) else halt_ p.2) >>= λp=>pure (jb8 done p.1,p.2)):=aa
      cases h2:statements g r2 with
      | error l=>rw [h2] at aa;exact aa
      | ok q =>
       obtain ⟨sl,r3⟩:=q;rw [h2] at aa;have aa:a0 D X rd H Q E (yy D) ((if jq r3=z then pure (Stmts.cons st sl,r3) else halt_ r3) >>= λp=>pure (jb8 done p.1,p.2)):=aa
       show a0 D X rd H Q E (yy D) ((if jq r3=z then pure (sl,r3) else halt_ r3) >>= λq=>pure (jb8 (done ++ [st]) q.1,q.2));by_cases cz:jq r3=z
       ·rw [if_pos cz] at aa ⊢;show a0 D X rd H Q E (yy D) (.ok (jb8 (done ++ [st]) sl,r3))
        rw [jv7];exact aa
       ·rw [if_neg cz] at aa ⊢;exact aa
   refine jkm R' ⟨_,rfl,X,rd,r,g,by omega,rfl,⟨R',dp',hh,by omega,sz⟩,trivial,q_ aa λst r2 he aa v H2 b2 R2 n2=>?_⟩;have C2:=yl ((Cell.jae g).statement r) he
   have lC2:=C2.len;obtain ⟨x,dx,k,a1,a2,a3,d,rfl,xT,xH',x2,nn⟩:=j19 n2;have xH:=xc bt R' x xH'
   have xr:=R'.ne xH';have xl:x≠l:=λy=>by rw [y,hl] at xH';cases xH'
   obtain ⟨pp,pt,ea⟩:=R'.front R2 (by omega);refine ⟨_,rfl,_,rfl,x,D.CN,dx.d,_,rfl,x2,TN.c.cl,TN.c.no _ (by decide),(by show 7 < 1000;decide),?_⟩;refine j2s (R2.updn xT xr) ea ⟨_,rfl,x,D.CN,dx.d,_,rfl,jd,TN.c.cl,TN.c.no _ (by decide),(by show 7 < 1000;decide),?_⟩;rw [jb9];have n3:=nn (.int (placeAt X.all X.len r.length:Nat)) (.int ((pt.place + pt.len:Nat):Int))
   have b3:a7 rd H' (upd H2 x (.ins D.CN dx.d (je4 k a1 a2 a3 ⟨dx.d,.int (placeAt X.all X.len r.length:Nat),.int ((pt.place + pt.len:Nat):Int)⟩ d))):=b2.updn xH';have R3:a8 D X rd (upd H2 x (.ins D.CN dx.d (je4 k a1 a2 a3 ⟨dx.d,.int (placeAt X.all X.len r.length:Nat),.int ((pt.place + pt.len:Nat):Int)⟩ d))) r2:=R2.updn xT xr
   have hl3:=b3 _ _ hl aj;refine ⟨_,rfl,.inl ⟨rfl,_,az.of hl3⟩,_,rfl,l,_,_,rfl,rfl,hl3,(by show vs.length < 2 ^ 24;omega),r2.length,by omega,g,r2,done ++ [st],vs ++ [.ref x],_,_,rfl,(bt.trans b3).updn ml,R3.updn mlT aj,dp0 C2 dp',by omega,by omega,rfl,jd,?_,by rw [List.length_append,List.length_singleton];omega,aa⟩;rw [List.map_append];exact ji.snoc (jz.same (jcg bt R' hl) _ _ n3) _ _ (ji.same (jep R1 jd b3) _ _ hN)
  ·have c:=jno c;have ce:jq r = "END"\/jq r = "}":=by rw [c];exact hz
   unfold v9 at aa;rw [jj2 w' ce] at aa;have aa:a0 D X rd H Q E (yy D) ((if jq r=z then pure (Stmts.nil,r) else halt_ r) >>= λp=>pure (jb8 done p.1,p.2)):=aa
   rw [if_pos c] at aa;have aa:a0 D X rd H Q E (yy D) (.ok (jb8 done .nil,r)):=aa
   refine ⟨_,rfl,aa _ _ bt R' ⟨l,vs,rfl,j_ mlT ml hl,by omega,?_⟩⟩;rw [jsj];exact ji.same ww _ _ hN
theorem jui:jv ["reader", "kind", "name", "value"] ["reader"] (jj jcm):=fs_
theorem j0l(Kn:jr K mg "read_binding" ["reader"] jcm)(B:z_ P w K mg base D)(I:vg P w K mg base D N)(h:Nat) :
  ax P w K mg base (xy h 22) "read_binding" ["reader"] (a9 D 1 (N + 1) h [] (λrs=>jq rs∈(["let", "set"]:List Str)) statement (yj D)):=by
 refine zk (r:=21) Kn jui (λ_ _ _ _ q=>q.len) (λ_ _ _ _ q=>q.le) λhh f ac A outer s H vs Q E hr q=>?_;obtain ⟨X,rd,rs,n,hn,rfl,pre,c0,aa⟩:=q;obtain ⟨R,dp,_,fu,sz⟩:=pre;have cl:=B.rd.c.cl
 have nd:=jui.nd;have r3:xw 3 _:=hr.mono (by omega)
 have GE:=I.expr h;refine ⟨_,(jc (ju (i:=1) nd rfl (Or.inl rfl) (xf B.move cl r3 (pv 0)))
   (jc (ju (i:=2) nd rfl (Or.inl rfl) (qg B.take cl r3 (pv 0) (ja jf jb)))
   (jc (j6 (qg B.take cl r3 (pv 0) (ja jf jb)))
   (jc (ju (i:=3) nd rfl (Or.inl rfl) (jh GE hr rfl (ja (pv 0) jb) (xq hh (by decide))))
   (jc (j6 (qg B.take cl r3 (pv 0) (ja jf jb)))
   (je (jp (yp B r3 rfl (ja (pv 1) (ja (j5 (ja (pv 2) jb)) (ja (j5 (ja (pv 3) jb)) (ja (j5 jb) jb)))))))))))),?_⟩
 have w:=R.wfr;cases n with
 | zero=>omega
 | succ n =>
  cases rs with
  | nil=>exact absurd c0 (by decide)
  | cons t r =>
   have lr:(t::r).length=r.length + 1:=rfl;have c0:jy t.lex∈(["let", "set"]:List Str):=c0
   obtain ⟨mk,emk,C1,aa⟩:∃ mk:Bytes->Vanbka.Expr->Vanbka.Stmt,(∀ x e,yb (mk x e) = .mk (jy t.lex) [.bytes x] [jx e] [])/\Cell.Con (t::r) r 0 1/\a0 D X rd H Q E (yj D) (Vanbka.name r >>= λp=>eat (isSign "=") p.2 >>= λr=>Vanbka.expr n r >>= λq=>eat (isSign ";") q.2 >>= λr=>pure (mk p.1 q.1,r)):=by
    rw [statement,jbz w,jby w] at aa;simp only [List.mem_cons,List.not_mem_nil,or_false] at c0;rcases c0 with c | c
    ·rw [show decide (jq (t::r) = "let")=true from dt_ c,if_pos rfl] at aa;exact ⟨.leta,λx e=>by rw [c];rfl,Cell.yi (s := "let") (by rw [jbz w];exact dt_ c),aa⟩
    ·rw [show decide (jq (t::r) = "let")=false by show decide (jy t.lex = "let")=false;rw [c];decide,if_neg Bool.false_ne_true,show decide (jq (t::r) = "set")=true from dt_ c,if_pos rfl] at aa;exact ⟨.seta,λx e=>by rw [c];rfl,Cell.yi (s := "set") (by rw [jby w];exact dt_ c),aa⟩
   refine jf4 R λH1 b1 R1=>?_;refine jcq R1 (jbr aa λx r2 he2 aa v H2 b2 R2 lf=>?_);have C2:=yl Cell.za he2
   have lC2:=C2.len;refine y9 R2 (jxw R2.wfr) (x_ aa λr3 he3 aa _ H3 b3 R3=>?_);have C3:=vm Cell.qt he3
   have lC3:=C3.len;have ap:=(b1.trans b2).trans b3
   refine ⟨_,rfl,X,rd,r3,n,by omega,rfl,⟨R3,dp0 C3 (dp0 C2 (dp0 C1 dp)),hh,by omega,sz⟩,trivial,q_ aa λe r4 he4 aa v4 H4 b4 R4 n4=>?_⟩;refine y9 R4 (jkj R4.wfr) (x_ aa λr5 he5 aa _ H5 b5 R5=>?_);have aq:=(ap.trans b4).trans b5
   have g4:jg (ay X.T H3 H4) (ay X.T H H5):=(yf ap R3).trans (xz R b5);refine ⟨_,rfl,_,rfl,(by show 1<=2 ^ 24;decide),λl1 m1=>⟨_,rfl,(by show 1<=2 ^ 24;decide),λl2 m2=>⟨by decide,λl3 m3=>?_⟩⟩⟩;refine jd2 (xc aq R5) R5.st m1 m2 m3 ⟨(by show 1<=1000;decide),(by show 1<=1000;decide),by decide⟩ (.cons (qo.same jbs lf) .nil) (wj (jz.same g4 _ _ n4)) zt λz H9 sm nd=>?_;rw [<- emk] at nd;exact aa _ _ (aq.then sm) (R5.same sm) nd
theorem jub:jv ["reader", "kind", "value"] ["reader"] (jj jcj):=fs_
theorem j0a(Kn:jr K mg "read_showing" ["reader"] jcj)(B:z_ P w K mg base D)(I:vg P w K mg base D N)(h:Nat) :
  ax P w K mg base (xy h 22) "read_showing" ["reader"] (a9 D 1 (N + 1) h [] (λrs=>jq rs∈jd5) statement (yj D)):=by
 refine zk (r:=21) Kn jub (λ_ _ _ _ q=>q.len) (λ_ _ _ _ q=>q.le) λhh f ac A outer s H vs Q E hr q=>?_;obtain ⟨X,rd,rs,n,hn,rfl,pre,c0,aa⟩:=q;obtain ⟨R,dp,_,fu,sz⟩:=pre;have cl:=B.rd.c.cl
 have nd:=jub.nd;have r3:xw 3 _:=hr.mono (by omega)
 have GE:=I.expr h;refine ⟨_,(jc (ju (i:=1) nd rfl (Or.inl rfl) (xf B.move cl r3 (pv 0)))
   (jc (ju (i:=2) nd rfl (Or.inl rfl) (jh GE hr rfl (ja (pv 0) jb) (xq hh (by decide))))
   (jc (j6 (qg B.take cl r3 (pv 0) (ja jf jb)))
   (je (jp (yp B r3 rfl (ja (pv 1) (ja (j5 jb) (ja (j5 (ja (pv 2) jb)) (ja (j5 jb) jb)))))))))),?_⟩
 have w:=R.wfr;cases n with
 | zero=>omega
 | succ n =>
  cases rs with
  | nil=>exact absurd c0 (by decide)
  | cons t r =>
   have lr:(t::r).length=r.length + 1:=rfl;have wn:=ji6 w
   cases hw:(wordNext (t::r)).bind Vanbka.wayOf with
   | none =>
    rw [hw] at wn;exact absurd c0 (ot_ wn)
   | some wy =>
    rw [hw] at wn;have ek:jy t.lex=jk_ wy:=ot_ (Bool.and_eq_true_iff.mp wn).2
    have C1:Cell.Con (t::r) r 0 1:=by
     have:=Cell.Con.one t r;have z:Cell.bw t=0:=by
      cases hl:t.lex with
      | word x=>exact Cell.jc4 hl
      | _ =>
       obtain ⟨l,p,k⟩:=t;have hl:l=_:=hl
       subst hl;cases hw
     rw [z] at this;exact this
    have aa:a0 D X rd H Q E (yj D) (Vanbka.expr n r >>= λq=>eat (isSign ";") q.2 >>= λr=>pure (.way wy q.1,r)):=by
     rw [statement,jbz w,jby w,jed w,jao w,jco w,w9 w,w_ w,hw] at aa;have hk:jq (t::r)=jk_ wy:=ek
     rw [hk] at aa;cases wy <;> exact aa
    refine jf4 R λH1 b1 R1=>?_;refine ⟨_,rfl,X,rd,r,n,by omega,rfl,⟨R1,dp0 C1 dp,hh,by omega,sz⟩,trivial,q_ aa λe r4 he4 aa v4 H4 b4 R4 n4=>?_⟩;refine y9 R4 (jkj R4.wfr) (x_ aa λr5 he5 aa _ H5 b5 R5=>?_);have aq:=(b1.trans b4).trans b5
    have g4:jg (ay X.T H1 H4) (ay X.T H H5):=(yf b1 R1).trans (xz R b5);refine ⟨_,rfl,by decide,λl1 m1=>⟨_,rfl,(by show 1<=2 ^ 24;decide),λl2 m2=>⟨by decide,λl3 m3=>?_⟩⟩⟩;refine jd2 (xc aq R5) R5.st m1 m2 m3 ⟨by decide,(by show 1<=1000;decide),by decide⟩ .nil (wj (jz.same g4 _ _ n4)) zt λz H9 sm nd=>?_;rw [ek] at nd;exact aa _ _ (aq.then sm) (R5.same sm) nd
abbrev jik:PySem.Stmt:=top 28
abbrev jd7:PySem.Stmt:=top 29
abbrev jgn:PySem.Stmt:=top 30
theorem jpp{X:Tx}{rd l:Addr}{H2 H3:Hp}{r:qb}(b3:a7 rd H2 H3)(R2:a8 D X rd H2 r)(ne:l≠rd)(n:H3 l=none):H2 l=none:=by
 cases e:H2 l with
 | none=>rfl
 | some o=>rw [b3 _ _ e ne] at n;cases n
theorem jo_{CN a:Addr}{H:Hp}{ws:List V}{l:List jw}(h:H a=some (.lst ws))(lw:ws.length<=700)(hN:ji CN H l ws):qr CN H [l] [.ref a]:=⟨a,ws,[],rfl,h,by omega,hN,rfl⟩
theorem jnh{X:Tx}{rd l1 l2 l3 a:Addr}{H H1 H3:Hp}{r' r r0:qb}{Q:Addr->Hp->Prop}{E:XK}{k:Str}{ah af ws:List V}{ls:List x8}{ps:List jw}{ss:List jw}(b1:a7 rd H H1)(R1:a8 D X rd H1 r')(R:a8 D X rd H r0)(m1:H1 l1=none)(m2:upd H1 l1 (.lst ah) l2=none)
  (hl:Paired (qo X.T) ls ah) (hp:ji D.CN (ay X.T H H1) ps af) (sz:ah.length<=1000/\af.length<=1000)
  (b3:a7 rd (upd (upd H1 l1 (.lst ah)) l2 (.lst af)) H3) (R3:a8 D X rd H3 r) (ha:ay X.T (upd (upd H1 l1 (.lst ah)) l2 (.lst af)) H3 a=some (.lst ws)) (lw:ws.length<=700) (hN:ji D.CN (ay X.T (upd (upd H1 l1 (.lst ah)) l2 (.lst af)) H3) ss ws)
  (m3:H3 l3=none) (q:∀ z H9,a7 rd H H9->a8 D X rd H9 r->jz D.CN (ay X.T H H9) (.mk k ls ps [ss]) (.ref z)->Q z H9) :
  ∀ z dx,upd H3 l3 (.lst [.ref a]) z=none->upd H3 l3 (.lst [.ref a]) dx=none->dx≠z->
   jgg D.CN [.ref z,.str k,.ref l1,.ref l2,.ref l3] (upd (upd (upd H3 l3 (.lst [.ref a])) dx (.own z)) z (.ins D.CN dx [])) (λv H2=>v = .non/\Q z H2) E:=by
 have s1:jg H1 (upd H1 l1 (.lst ah)):=jo m1 _;have s2:jg (upd H1 l1 (.lst ah)) (upd (upd H1 l1 (.lst ah)) l2 (.lst af)):=jo m2 _
 have R2:=R1.same (s1.trans s2);have b2:=b1.then (s1.trans s2)
 have ap:=b2.trans b3;have gr:=xc ap R3
 have s3:jg H3 (upd H3 l3 (.lst [.ref a])):=jo m3 _;have m1r:=R1.ne m1
 have m2r:=(R1.same s1).ne m2;have g:jg (ay X.T (upd (upd H1 l1 (.lst ah)) l2 (.lst af)) H3) (ay X.T H (upd H3 l3 (.lst [.ref a]))):=(yf b2 R2).trans (xg s3)
 have gp:jg (ay X.T H H1) (ay X.T H (upd H3 l3 (.lst [.ref a]))):=jbh λb o z1 z2=>⟨z1,s3 _ _ (b3 _ _ ((s1.trans s2) _ _ z2) (R.ne z1))⟩
 exact yu (ls:=ls) (ps:=ps) (bs:=[ss]) (λb z=>gr b (jk s3 z)) (R3.st.trans s3) (j_ (ze R1.st m1) (xc b1 R1 l1 m1) (s3 _ _ (b3 _ _ (s2 _ _ jd) m1r))) (j_ (ze (R1.same s1).st m2) (xc b1 R1 l2 (jk s1 m2)) (s3 _ _ (b3 _ _ jd m2r))) (j_ (jk R3.st m3) (gr _ m3) jd)
  ⟨sz.1,sz.2,(by show 1<=1000;decide)⟩ (Paired.mapP hl λ_ _ z=>qo.same jbs z) (ji.same gp _ _ hp) (jo_ (g _ _ ha) lw (ji.same g _ _ hN)) λx H9 sm nd=>q x H9 (ap.then (s3.trans sm)) (R3.same (s3.trans sm)) nd
theorem j1q:jv ["reader", "condition", "blocks"] ["reader"] (jj jik):=fs_
theorem j3q(Kn:jr K mg "read_if" ["reader"] jik)(B:z_ P w K mg base D)(I:vg P w K mg base D N)(h:Nat) :
  ax P w K mg base (xy h 22) "read_if" ["reader"] (a9 D 1 (N + 1) h [] (λrs=>jq rs = "if") statement (yj D)):=by
 refine zk (r:=21) Kn j1q (λ_ _ _ _ q=>q.len) (λ_ _ _ _ q=>q.le) λhh f ac A outer s H vs Q E hr q=>?_;obtain ⟨X,rd,rs,n,hn,rfl,pre,c0,aa⟩:=q;obtain ⟨R,dp,_,fu,sz⟩:=pre;have cl:=B.rd.c.cl
 have nd:=j1q.nd;have r3:xw 3 _:=hr.mono (by omega)
 have GE:=I.expr h;have GB:=I.block h
 refine ⟨_,(jc (j6 (qg B.take cl r3 (pv 0) (ja jf jb)))
   (jc (ju (i:=1) nd rfl (Or.inl rfl) (jh GE hr rfl (ja (pv 0) jb) (xq hh (by decide))))
   (jc (ju (i:=2) nd rfl (Or.inl rfl) (j5 (ja (jh GB hr rfl (ja (pv 0) jb) (xq hh (by decide))) jb)))
   (jc (qi (js xi (xf B.look cl r3 (pv 0)) jf (j9 _)) (jc (j6 (qg B.take cl r3 (pv 0) (ja jf jb)))
   (je (j6 (vd PySem.F.plainAttrs_list PySem.F.slot_list_append PySem.F.type_list_append zh (pv 2) (ja (jh GB hr rfl (ja (pv 0) jb) (xq hh (by decide))) jb))))) j3)
   (je (jp (yp B r3 rfl (ja jf (ja (j5 jb) (ja (j5 (ja (pv 1) jb)) (ja (pv 2) jb))))))))))),?_⟩
 have w:=R.wfr;cases n with
 | zero=>omega
 | succ n =>
  obtain ⟨t,r,e1,e2,hk⟩:=yw c0 (by decide);subst e1;have lr:(t::r).length=r.length + 1:=rfl
  have C1:Cell.Con (t::r) r 0 1:=Cell.yi (s := "if") (by rw [jed w];exact dt_ c0);rw [statement,jbz w,jby w,jed w,jao w,jco w,w9 w,w_ w,c0] at aa;refine zi R c0 λ_ H1 b1 R1 _=>?_;have R1:a8 D X rd H1 r:=R1
  have aa:a0 D X rd H Q E (yj D) (Vanbka.expr n r >>= λp=>block n p.2 >>= λq=>if next (isWord "else") q.2 then (block n (q.2.drop 1) >>= λu=>pure (.iffElse p.1 q.1 u.1,u.2)) else pure (.iff p.1 q.1,q.2)):=aa;refine ⟨_,rfl,X,rd,r,n,by omega,rfl,⟨R1,dp0 C1 dp,hh,by omega,sz⟩,trivial,q_ aa λc r2 he2 aa v2 H2 b2 R2 n2=>?_⟩;have C2:=yl ((Cell.jae n).expr r) he2
  have lC2:=C2.len;have ao:=b1.trans b2
  dsimp only at aa;refine ⟨_,rfl,X,rd,r2,n,by omega,rfl,⟨R2,dp0 C2 (dp0 C1 dp),hh,by omega,sz⟩,trivial,q_ aa λxs r3 he3 aa v3 H3 b3 R3 n3=>?_⟩;have C3:=yl ((Cell.jae n).block r2) he3
  have lC3:=C3.len;dsimp only at aa;obtain ⟨a3,ws,rfl,ha3,lw,hN3⟩:=n3;have ap:=ao.trans b3
  refine ⟨(by show 1<=2 ^ 24;decide),λl ml=>?_⟩;have mlT:=ze R3.st ml
  have aj:=R3.ne ml;have mlH:=xc ap R3 l ml
  have sl:jg H3 (upd H3 l (.lst [.ref a3])):=jo ml _;have R4:=R3.same sl
  have b04:=ap.then sl;have Rb:a8 D X rd (upd H l (.lst [])) (t::r):=R.updn mlT aj
  have nc4:jz D.CN (ay X.T (upd H l (.lst [])) (upd H3 l (.lst [.ref a3]))) (jx c) v2:=jz.same (jbh λb o z1 z2=>by
   have n1:b≠l:=λy=>by rw [y] at z2;rw [(jpp b3 R2 aj ml)] at z2;cases z2
   exact ⟨by rw [jm n1];exact xc b1 R1 b z1,by rw [jm n1];exact b3 _ _ z2 (R1.ne z1)⟩) _ _ n2
  have g34:jg (ay X.T H2 H3) (ay X.T (upd H l (.lst [])) (upd H3 l (.lst [.ref a3]))):=jbh λb o z1 z2=>by
   have n1:b≠l:=λy=>by rw [y,ml] at z2;cases z2
   exact ⟨by rw [jm n1];exact xc ao R2 b z1,by rw [jm n1];exact z2⟩
  have hB4:qr D.CN (ay X.T (upd H l (.lst [])) (upd H3 l (.lst [.ref a3]))) [xk xs] [.ref a3]:=jo_ (g34 _ _ ha3) lw (ji.same g34 _ _ hN3);rw [jqu R3.wfr] at aa;refine zj R4 ⟨rfl,_,rfl,qd (λce=>?_) (λce=>?_)⟩
  ·have ce:=wo ce;rw [dt_ ce,if_pos rfl] at aa;obtain ⟨t5,r5,e5,e6,_⟩:=yw ce (by decide);have len5:r3.length=r5.length + 1:=by rw [e5];rfl
   have C5:Cell.Con r3 (r3.drop 1) 0 1:=Cell.yi (s := "else") (by rw [jqu R3.wfr];exact dt_ ce);rw [e6] at aa C5;refine zi R4 ce λ_ H5 b5 R5 _=>?_;rw [e6] at R5;have hl5:H5 l=some (.lst [.ref a3]):=b5 _ _ jd aj
   have aq:=b04.trans b5;refine ⟨_,rfl,.inl ⟨rfl,_,az.of hl5⟩,_,rfl,X,rd,r5,n,by omega,rfl,⟨R5,dp0 C5 (dp0 C3 (dp0 C2 (dp0 C1 dp))),hh,by omega,sz⟩,trivial,q_ aa λys r6 he6 aa v6 H6 b6 R6 n6=>?_⟩;obtain ⟨a6,us,rfl,ha6,lu,hN6⟩:=n6;have hl6:H6 l=some (.lst [.ref a3]):=b6 _ _ hl5 aj
   refine ⟨l,_,_,rfl,rfl,hl6,(by show 1 < 2 ^ 24;decide),?_⟩;have g4:jg (ay X.T (upd H l (.lst [])) (upd H3 l (.lst [.ref a3]))) (ay X.T (upd H l (.lst [])) (upd H6 l (.lst ([.ref a3] ++ [.ref a6])))):=jep Rb jd (b5.trans b6)
   have g6:jg (ay X.T H5 H6) (ay X.T (upd H l (.lst [])) (upd H6 l (.lst ([.ref a3] ++ [.ref a6])))):=jcg aq R5 hl5;have by_:a7 rd H (upd H6 l (.lst ([.ref a3] ++ [.ref a6]))):=(aq.trans b6).updn mlH
   have Ry:a8 D X rd (upd H6 l (.lst ([.ref a3] ++ [.ref a6]))) r6:=R6.updn mlT aj;have hly:(upd H6 l (.lst ([.ref a3] ++ [.ref a6]))) l=some (.lst ([.ref a3] ++ [.ref a6])):=jd
   have nc:=jz.same (ww (T:=X.T) (H:=H) (l:=l) (o:=.lst [])) _ _ (jz.same g4 _ _ nc4);have hB:qr D.CN (ay X.T H (upd H6 l (.lst ([.ref a3] ++ [.ref a6])))) [xk xs,xk ys] ([.ref a3] ++ [.ref a6]):=by
    refine qr.same (ww (T:=X.T) (H:=H) (l:=l) (o:=.lst [])) _ _ ?_;obtain ⟨a,ws',rr,ea,h1,h2,h3,h4⟩:=qr.same g4 _ _ hB4;cases ea;exact ⟨a3,ws',[.ref a6],rfl,h1,h2,h3,jo_ (g6 _ _ ha6) lu (ji.same g6 _ _ hN6)⟩
   refine ⟨by decide,λl1 m1=>⟨_,rfl,(by show 1<=2 ^ 24;decide),λl2 m2=>?_⟩⟩;have s1:jg (upd H6 l (.lst ([.ref a3] ++ [.ref a6]))) (upd (upd H6 l (.lst ([.ref a3] ++ [.ref a6]))) l1 (.lst [])):=jo m1 _
   have s2:jg (upd (upd H6 l (.lst ([.ref a3] ++ [.ref a6]))) l1 (.lst [])) (upd (upd (upd H6 l (.lst ([.ref a3] ++ [.ref a6]))) l1 (.lst [])) l2 (.lst [v2])):=jo m2 _;have gr:=xc by_ Ry
   refine ⟨_,rfl,?_⟩;exact yu (ls:=[]) (ps:=[jx c]) (bs:=[xk xs,xk ys]) (λb z=>gr b (jk (s1.trans s2) z)) (Ry.st.trans (s1.trans s2)) (j_ (jk Ry.st m1) (gr _ m1) (s2 _ _ jd)) (j_ (jk (Ry.st.trans s1) m2) (gr _ (jk s1 m2)) jd) (j_ mlT mlH ((s1.trans s2) _ _ hly))
    ⟨by decide,(by show 1<=1000;decide),(by show 2<=1000;decide)⟩ .nil (wj (jz.same ((xg (s1.trans s2))) _ _ nc)) (qr.same (xg (s1.trans s2)) _ _ hB) λz H9 sm nd=>aa _ _ (by_.then ((s1.trans s2).trans sm)) (Ry.same ((s1.trans s2).trans sm)) nd
  ·have ce:=jac ce;rw [df_ ce,if_neg Bool.false_ne_true] at aa;have by_:=b04
   have Ry:=R4;have hly:(upd H3 l (.lst [.ref a3])) l=some (.lst [.ref a3]):=jd
   have nc:=jz.same (ww (T:=X.T) (H:=H) (l:=l) (o:=.lst [])) _ _ nc4;have hB:=qr.same (ww (T:=X.T) (H:=H) (l:=l) (o:=.lst [])) _ _ hB4
   refine ⟨by decide,λl1 m1=>⟨_,rfl,(by show 1<=2 ^ 24;decide),λl2 m2=>?_⟩⟩;have s1:jg (upd H3 l (.lst [.ref a3])) (upd (upd H3 l (.lst [.ref a3])) l1 (.lst [])):=jo m1 _
   have s2:jg (upd (upd H3 l (.lst [.ref a3])) l1 (.lst [])) (upd (upd (upd H3 l (.lst [.ref a3])) l1 (.lst [])) l2 (.lst [v2])):=jo m2 _;have gr:=xc by_ Ry
   refine ⟨_,rfl,?_⟩;exact yu (ls:=[]) (ps:=[jx c]) (bs:=[xk xs]) (λb z=>gr b (jk (s1.trans s2) z)) (Ry.st.trans (s1.trans s2)) (j_ (jk Ry.st m1) (gr _ m1) (s2 _ _ jd)) (j_ (jk (Ry.st.trans s1) m2) (gr _ (jk s1 m2)) jd) (j_ mlT mlH ((s1.trans s2) _ _ hly))
    ⟨by decide,(by show 1<=1000;decide),(by show 1<=1000;decide)⟩ .nil (wj (jz.same ((xg (s1.trans s2))) _ _ nc)) (qr.same (xg (s1.trans s2)) _ _ hB) λz H9 sm nd=>aa _ _ (by_.then ((s1.trans s2).trans sm)) (Ry.same ((s1.trans s2).trans sm)) nd
theorem jqe:jv ["reader", "condition"] ["reader"] (jj jd7):=fs_
theorem jxg(Kn:jr K mg "read_while" ["reader"] jd7)(B:z_ P w K mg base D)(I:vg P w K mg base D N)(h:Nat) :
  ax P w K mg base (xy h 22) "read_while" ["reader"] (a9 D 1 (N + 1) h [] (λrs=>jq rs = "while") statement (yj D)):=by
 refine zk (r:=21) Kn jqe (λ_ _ _ _ q=>q.len) (λ_ _ _ _ q=>q.le) λhh f ac A outer s H vs Q E hr q=>?_;obtain ⟨X,rd,rs,n,hn,rfl,pre,c0,aa⟩:=q;obtain ⟨R,dp,_,fu,sz⟩:=pre;have cl:=B.rd.c.cl
 have nd:=jqe.nd;have r3:xw 3 _:=hr.mono (by omega)
 have GE:=I.expr h;have GB:=I.block h
 refine ⟨_,(jc (j6 (qg B.take cl r3 (pv 0) (ja jf jb)))
   (jc (ju (i:=1) nd rfl (Or.inl rfl) (jh GE hr rfl (ja (pv 0) jb) (xq hh (by decide))))
   (je (jp (yp B r3 rfl (ja jf (ja (j5 jb) (ja (j5 (ja (pv 1) jb)) (ja (j5 (ja (jh GB hr rfl (ja (pv 0) jb) (xq hh (by decide))) jb)) jb))))))))),?_⟩
 have w:=R.wfr;cases n with
 | zero=>omega
 | succ n =>
  obtain ⟨t,r,e1,e2,hk⟩:=yw c0 (by decide);subst e1;have lr:(t::r).length=r.length + 1:=rfl
  have C1:Cell.Con (t::r) r 0 1:=Cell.yi (s := "while") (by rw [jao w];exact dt_ c0);rw [statement,jbz w,jby w,jed w,jao w,jco w,w9 w,w_ w,c0] at aa;refine zi R c0 λ_ H1 b1 R1 _=>?_;have R1:a8 D X rd H1 r:=R1
  have aa:a0 D X rd H Q E (yj D) (Vanbka.expr n r >>= λp=>block n p.2 >>= λq=>pure (.while_ p.1 q.1,q.2)):=aa;refine ⟨_,rfl,X,rd,r,n,by omega,rfl,⟨R1,dp0 C1 dp,hh,by omega,sz⟩,trivial,q_ aa λc r2 he2 aa v2 H2 b2 R2 n2=>?_⟩;have C2:=yl ((Cell.jae n).expr r) he2
  have lC2:=C2.len;have ao:=b1.trans b2
  refine ⟨by decide,λl1 m1=>⟨_,rfl,(by show 1<=2 ^ 24;decide),λl2 m2=>?_⟩⟩;have s12:jg H2 (upd (upd H2 l1 (.lst [])) l2 (.lst [v2])):=(jo m1 _).trans (jo m2 _)
  refine ⟨_,rfl,X,rd,r2,n,by omega,rfl,⟨R2.same s12,dp0 C2 (dp0 C1 dp),hh,by omega,sz⟩,trivial,q_ aa λxs r3 he3 aa v3 H3 b3 R3 n3=>?_⟩;obtain ⟨a3,ws,rfl,ha3,lw,hN3⟩:=n3;exact ⟨(by show 1<=2 ^ 24;decide),λl3 m3=>jnh ao R2 R m1 m2 .nil (wj (jz.same (yf b1 R1) _ _ n2)) ⟨by decide,(by show 1<=1000;decide)⟩ b3 R3 ha3 lw hN3 m3 λz H9 b9 R9 nd=>aa _ _ b9 R9 nd⟩
theorem jyx:jv ["reader", "name", "walked"] ["reader"] (jj jgn):=fs_
theorem j2l(Kn:jr K mg "read_for" ["reader"] jgn)(B:z_ P w K mg base D)(I:vg P w K mg base D N)(h:Nat) :
  ax P w K mg base (xy h 22) "read_for" ["reader"] (a9 D 1 (N + 1) h [] (λrs=>jq rs = "for") statement (yj D)):=by
 refine zk (r:=21) Kn jyx (λ_ _ _ _ q=>q.len) (λ_ _ _ _ q=>q.le) λhh f ac A outer s H vs Q E hr q=>?_;obtain ⟨X,rd,rs,n,hn,rfl,pre,c0,aa⟩:=q;obtain ⟨R,dp,_,fu,sz⟩:=pre;have cl:=B.rd.c.cl
 have nd:=jyx.nd;have r3:xw 3 _:=hr.mono (by omega)
 have GE:=I.expr h;have GB:=I.block h
 refine ⟨_,(jc (j6 (qg B.take cl r3 (pv 0) (ja jf jb)))
   (jc (ju (i:=1) nd rfl (Or.inl rfl) (qg B.take cl r3 (pv 0) (ja jf jb)))
   (jc (j6 (qg B.take cl r3 (pv 0) (ja jf jb)))
   (jc (ju (i:=2) nd rfl (Or.inl rfl) (jh GE hr rfl (ja (pv 0) jb) (xq hh (by decide))))
   (je (jp (yp B r3 rfl (ja jf (ja (j5 (ja (pv 1) jb)) (ja (j5 (ja (pv 2) jb)) (ja (j5 (ja (jh GB hr rfl (ja (pv 0) jb) (xq hh (by decide))) jb)) jb))))))))))),?_⟩
 have w:=R.wfr;cases n with
 | zero=>omega
 | succ n =>
  obtain ⟨t,r,e1,e2,hk⟩:=yw c0 (by decide);subst e1;have lr:(t::r).length=r.length + 1:=rfl
  have C1:Cell.Con (t::r) r 0 1:=Cell.yi (s := "for") (by rw [jco w];exact dt_ c0);rw [statement,jbz w,jby w,jed w,jao w,jco w,w9 w,w_ w,c0] at aa;refine zi R c0 λ_ H1 b1 R1 _=>?_;have R1:a8 D X rd H1 r:=R1
  have aa:a0 D X rd H Q E (yj D) (Vanbka.name r >>= λx=>eat (isWord "in") x.2 >>= λr=>Vanbka.expr n r >>= λp=>block n p.2 >>= λq=>pure (.for x.1 p.1 q.1,q.2)):=aa;refine jcq R1 (jbr aa λx ra hea aa va Ha ba Ra lf=>?_);have Ca:=yl Cell.za hea
  have lCa:=Ca.len;refine y9 Ra (jsi Ra.wfr) (x_ aa λrb heb aa _ Hb bb Rb=>?_);have Cb:=vm Cell.jgt heb
  have lCb:=Cb.len;have b0b:=(b1.trans ba).trans bb
  refine ⟨_,rfl,X,rd,rb,n,by omega,rfl,⟨Rb,dp0 Cb (dp0 Ca (dp0 C1 dp)),hh,by omega,sz⟩,trivial,q_ aa λc r2 he2 aa v2 H2 b2 R2 n2=>?_⟩;have C2:=yl ((Cell.jae n).expr rb) he2
  have lC2:=C2.len;have ao:=b0b.trans b2
  refine ⟨_,rfl,(by show 1<=2 ^ 24;decide),λl1 m1=>⟨_,rfl,(by show 1<=2 ^ 24;decide),λl2 m2=>?_⟩⟩;have s12:jg H2 (upd (upd H2 l1 (.lst [va])) l2 (.lst [v2])):=(jo m1 _).trans (jo m2 _)
  refine ⟨_,rfl,X,rd,r2,n,by omega,rfl,⟨R2.same s12,dp0 C2 (dp0 Cb (dp0 Ca (dp0 C1 dp))),hh,by omega,sz⟩,trivial,q_ aa λxs r3 he3 aa v3 H3 b3 R3 n3=>?_⟩;obtain ⟨a3,ws,rfl,ha3,lw,hN3⟩:=n3;exact ⟨(by show 1<=2 ^ 24;decide),λl3 m3=>jnh ao R2 R m1 m2 (.cons lf .nil) (wj (jz.same (yf b0b Rb) _ _ n2)) ⟨(by show 1<=1000;decide),(by show 1<=1000;decide)⟩ b3 R3 ha3 lw hN3 m3 λz H9 b9 R9 nd=>aa _ _ b9 R9 nd⟩
abbrev jda:PySem.Stmt:=top 31
abbrev jdg:PySem.Stmt:=top 33
def j1j:Nat->Vanbka.Tok->Bool
 | 0=>isSign "="
 | 1=>isWord "in"
 | _=>isSign ","
def jws:Nat->Str
 | 0 => "="
 | 1 => "in"
 | _ => ","
theorem j3x(i:Nat){rs:qb}(h:bc rs):next (j1j i) rs=decide (jq rs=jws i):=by
 match i with
 | 0=>exact jxw h
 | 1=>exact jsi h
 | _ + 2=>exact jaz h
theorem j1i(i:Nat):jws i≠"END":=by
 match i with
 | 0=>decide
 | 1=>decide
 | _ + 2=>exact (show (",":Str)≠"END" by decide)
def slR(x:Bytes):Nat->List Int->qb->Except Nat (Vanbka.Stmt×qb)
 | 0,_,r=>eat (isSign "=") r >>= λr=>Vanbka.whole r >>= λv=>eat (isWord "in") v.2 >>= λr=>Vanbka.whole r >>= λlo=>eat (isSign ",") lo.2 >>= λr=>Vanbka.whole r >>= λhi=>eat (isSign ";") hi.2 >>= λr=>pure (.slider x v.1 lo.1 hi.1,r)
 | 1,d,r=>eat (isWord "in") r >>= λr=>Vanbka.whole r >>= λlo=>eat (isSign ",") lo.2 >>= λr=>Vanbka.whole r >>= λhi=>eat (isSign ";") hi.2 >>= λr=>pure (.slider x (d.getD 0 0) lo.1 hi.1,r)
 | 2,d,r=>eat (isSign ",") r >>= λr=>Vanbka.whole r >>= λhi=>eat (isSign ";") hi.2 >>= λr=>pure (.slider x (d.getD 0 0) (d.getD 1 0) hi.1,r)
 | _,d,r=>eat (isSign ";") r >>= λr=>pure (.slider x (d.getD 0 0) (d.getD 1 0) (d.getD 2 0),r)
theorem jwq{x:Bytes}{i:Nat}{d:List Int}{r:qb}(hi:i < 3)(hd:d.length=i):slR x i d r=eat (j1j i) r >>= λr=>Vanbka.whole r >>= λp=>slR x (i + 1) (d ++ [p.1]) p.2:=by
 match i,d,hi,hd with
 | 0,[],_,_=>rfl
 | 1,[a],_,_=>rfl
 | 2,[a,b],_,_=>rfl
theorem jnx:jv ["reader", "leaves", "sign"] ["reader"] (jj jda):=fs_
theorem juw(Kn:jr K mg "read_slider" ["reader"] jda)(B:z_ P w K mg base D)(GW:ax P w K mg base 4 "read_whole" ["reader"] (jig D))(I:vg P w K mg base D N)(h:Nat) :
  ax P w K mg base (xy h 22) "read_slider" ["reader"] (a9 D 1 (N + 1) h [] (λrs=>jq rs = "slider") statement (yj D)):=by
 refine zk (r:=21) Kn jnx (λ_ _ _ _ q=>q.len) (λ_ _ _ _ q=>q.le) λhh f ac A outer s H vs Q E hr q=>?_;obtain ⟨X,rd,rs,n,hn,rfl,pre,c0,aa⟩:=q;obtain ⟨R,dp,_,fu,sz⟩:=pre;have cl:=B.rd.c.cl
 have nd:=jnx.nd;have r3:xw 3 _:=hr.mono (by omega)
 have GE:=I.expr h;have GB:=I.block h
 refine ⟨_,(jc (j6 (qg B.take cl r3 (pv 0) (ja jf jb)))
   (jc (ju (i:=1) nd rfl (Or.inl rfl) (j5 (ja (qg B.take cl r3 (pv 0) (ja jf jb)) jb)))
   (jc (jdm jad rfl (j2a (jbw (ja jf (ja jf (ja jf jb))))) (yo (i:=2) nd rfl (Or.inl rfl)) (jc (j6 (qg B.take cl r3 (pv 0) (ja (pv 2) jb)))
   (je (j6 (vd PySem.F.plainAttrs_list PySem.F.slot_list_append PySem.F.type_list_append zh (pv 1) (ja (jh GW hr rfl (ja (pv 0) jb) (by omega)) jb))))))
   (jc (j6 (qg B.take cl r3 (pv 0) (ja jf jb)))
   (je (jp (yp B r3 rfl (ja jf (ja (pv 1) (ja (j5 jb) (ja (j5 jb) jb))))))))))),?_⟩
 have w:=R.wfr;cases n with
 | zero=>omega
 | succ n =>
  obtain ⟨t,r,e1,e2,hk⟩:=yw c0 (by decide);subst e1;have lr:(t::r).length=r.length + 1:=rfl
  have C1:Cell.Con (t::r) r 0 1:=Cell.yi (s := "slider") (by rw [w9 w];exact dt_ c0);rw [statement,jbz w,jby w,jed w,jao w,jco w,w9 w,w_ w,c0] at aa;refine zi R c0 λ_ H1 b1 R1 _=>?_;have R1:a8 D X rd H1 r:=R1
  have aa:a0 D X rd H Q E (yj D) (Vanbka.name r >>= λp=>slR p.1 0 [] p.2):=aa;refine jcq R1 (jbr aa λx r2 he2 aa v H2 b2 R2 lf=>?_);have ao:=b1.trans b2
  dsimp only at aa;refine ⟨(by show 1<=2 ^ 24;decide),λl ml=>?_⟩;have mlT:=ze R2.st ml
  have aj:=R2.ne ml;have mlH:=xc ao R2 l ml
  have sl:jg H2 (upd H2 l (.lst [v])):=jo ml _;refine ⟨by decide,λtp mt=>?_⟩;have mtr:=(R2.same sl).ne mt
  have mtl:tp≠l:=λy=>by
   have mt:upd H2 l (.lst [v]) tp=none:=mt;rw [y,jd] at mt;cases mt
  have st:jg (upd H2 l (.lst [v])) (upd (upd H2 l (.lst [v])) tp (.tup [.str "=",.str "in",.str ","])):=jo mt _;refine ⟨tp,rfl,⟨_,be.of jd⟩,λi m σ H'=>∃ (r:qb) (done:List Int) (vs:List V) (v2:Option V),σ=[some (.ref rd),some (.ref l),v2]/\a7 rd H H'/\a8 D X rd H' r/\m=3 - i/\i<=3/\H' l=some (.lst vs)/\H' tp=some (.tup [.str "=",.str "in",.str ","])/\done.length=i/\Paired (qo X.T) (.bytes x::done.map x8.int) vs/\a0 D X rd H Q E (yj D) (slR x i done r),
   ⟨_,r2,[],[v],none,rfl,ao.then (sl.trans st),R2.same (sl.trans st),rfl,Nat.zero_le _,st _ _ jd,jd,rfl,.cons lf .nil,aa⟩,?_⟩
  rintro i m σ H' ⟨r,done,vs,v2,rfl,bt,R',rfl,hi,hl,ht,hd,hU,aa⟩;have hv:=(Paired.len hU)
  rw [List.length_cons,List.length_map,hd] at hv;by_cases h3:i < 3
  ·have hx:([.str "=",.str "in",.str ","]:List V)[i]? = some (.str (jws i)):=by
    match i,h3 with
    | 0,_=>rfl
    | 1,_=>rfl
    | 2,_=>rfl
   refine .inr ⟨⟨_,_,be.of ht,hx⟩,λσ H'=>∃ m,m < 3 - i/\∃ (r:qb) (done:List Int) (vs:List V) (v2:Option V),σ=[some (.ref rd),some (.ref l),v2]/\a7 rd H H'/\a8 D X rd H' r/\m=3 - (i + 1)/\i + 1<=3/\H' l=some (.lst vs)/\H' tp=some (.tup [.str "=",.str "in",.str ","])/\done.length=i + 1/\Paired (qo X.T) (.bytes x::done.map x8.int) vs/\a0 D X rd H Q E (yj D) (slR x (i + 1) done r),λ_ _ z=>z,?_⟩;rintro y H2' ⟨rfl,hy⟩;have ey:=hy _ (be.of ht)
   rw [hx] at ey;cases ey;rw [jwq h3 hd] at aa;refine y9 R' (j3x i R'.wfr) (x_ aa λr3 he3 aa _ H3 b3 R3=>?_) (j1i i) (λ_ q=>⟨_,rfl,q⟩);have hl3:=b3 _ _ hl aj
   have ht3:=b3 _ _ ht mtr;refine ⟨_,rfl,.inl ⟨rfl,_,az.of hl3⟩,_,rfl,X,rd,r3,rfl,R3,jbr aa λz r4 he4 aa v4 H4 b4 R4 e4=>?_⟩;have hl4:=b4 _ _ hl3 aj
   have ht4:=b4 _ _ ht3 mtr;refine ⟨l,_,_,rfl,rfl,hl4,(by show vs.length < 2 ^ 24;omega),3 - (i + 1),by omega,r4,done ++ [z],vs ++ [v4],_,rfl,((bt.trans b3).trans b4).updn mlH,R4.updn mlT aj,rfl,h3,jd,by rw [jm mtl];exact ht4,by rw [List.length_append,List.length_singleton];omega,?_,aa⟩;rw [List.map_append];exact Paired.snoc hU e4
  ·have e3:i=3:=by omega
   subst e3;match done,hd with
   | [d0,d1,d2],_ =>
    refine .inl ⟨⟨_,be.of ht,by decide⟩,?_⟩;have aa:a0 D X rd H Q E (yj D) (eat (isSign ";") r >>= λr=>pure (.slider x d0 d1 d2,r)):=aa
    refine y9 R' (jkj R'.wfr) (x_ aa λr5 he5 aa _ H5 b5 R5=>?_);have aq:=bt.trans b5
    have hl5:=b5 _ _ hl aj;refine ⟨_,rfl,by decide,λl2 m2=>⟨by decide,λl3 m3=>?_⟩⟩;have gr:=xc aq R5
    have s1:jg H5 (upd H5 l2 (.lst [])):=jo m2 _;have s2:jg (upd H5 l2 (.lst [])) (upd (upd H5 l2 (.lst [])) l3 (.lst [])):=jo m3 _
    exact yu (ls:=[.bytes x,.int d0,.int d1,.int d2]) (ps:=[]) (bs:=[]) (λb z=>gr b (jk (s1.trans s2) z)) (R5.st.trans (s1.trans s2)) (j_ mlT mlH ((s1.trans s2) _ _ hl5)) (j_ (jk R5.st m2) (gr _ m2) (s2 _ _ jd)) (j_ (jk (R5.st.trans s1) m3) (gr _ (jk s1 m3)) jd) ⟨by omega,by decide,by decide⟩ (Paired.mapP hU λ_ _ z=>qo.same jbs z) jbe zt λz H9 sm nd=>aa _ _ (aq.then ((s1.trans s2).trans sm)) (R5.same ((s1.trans s2).trans sm)) nd
theorem jn5:jv ["reader", "leaves"] ["reader"] (jj jdg):=fs_
theorem ju1(Kn:jr K mg "read_choice" ["reader"] jdg)(B:z_ P w K mg base D)(GV:ax P w K mg base 4 "read_leaves" ["reader", "kind"] (jb6 D "QUOTED" Vanbka.quoted Vanbka.quotedMore))(I:vg P w K mg base D N)(h:Nat) :
  ax P w K mg base (xy h 22) "read_choice" ["reader"] (a9 D 1 (N + 1) h [] (λrs=>jq rs = "choice") statement (yj D)):=by
 refine zk (r:=21) Kn jn5 (λ_ _ _ _ q=>q.len) (λ_ _ _ _ q=>q.le) λhh f ac A outer s H vs Q E hr q=>?_;obtain ⟨X,rd,rs,n,hn,rfl,pre,c0,aa⟩:=q;obtain ⟨R,dp,_,fu,sz⟩:=pre;have cl:=B.rd.c.cl
 have nd:=jn5.nd;have r3:xw 3 _:=hr.mono (by omega)
 have GE:=I.expr h;have GB:=I.block h
 refine ⟨_,(jc (j6 (qg B.take cl r3 (pv 0) (ja jf jb)))
   (jc (ju (i:=1) nd rfl (Or.inl rfl) (j5 (ja (qg B.take cl r3 (pv 0) (ja jf jb)) jb)))
   (jc (j6 (qg B.take cl r3 (pv 0) (ja jf jb)))
   (jc (j6 (vd PySem.F.plainAttrs_list PySem.F.slot_list_append PySem.F.type_list_append zh (pv 1) (ja (qg B.take cl r3 (pv 0) (ja jf jb)) jb)))
   (jc (j6 (qg B.take cl r3 (pv 0) (ja jf jb)))
   (jc (j6 (vd PySem.F.plainAttrs_list PySem.F.slot_list_extend PySem.F.type_list_extend jcd (pv 1) (ja (jh GV hr rfl (ja (pv 0) (ja jf jb)) (by omega)) jb)))
   (jc (j6 (qg B.take cl r3 (pv 0) (ja jf jb)))
   (je (jp (yp B r3 rfl (ja jf (ja (pv 1) (ja (j5 jb) (ja (j5 jb) jb)))))))))))))),?_⟩
 have w:=R.wfr;cases n with
 | zero=>omega
 | succ n =>
  obtain ⟨t,r,e1,e2,hk⟩:=yw c0 (by decide);subst e1;have lr:(t::r).length=r.length + 1:=rfl
  have C1:Cell.Con (t::r) r 0 1:=Cell.yi (s := "choice") (by rw [w_ w];exact dt_ c0);rw [statement,jbz w,jby w,jed w,jao w,jco w,w9 w,w_ w,c0] at aa;refine zi R c0 λ_ H1 b1 R1 _=>?_;have R1:a8 D X rd H1 r:=R1
  have aa:a0 D X rd H Q E (yj D) (Vanbka.name r >>= λx=>eat (isSign "=") x.2 >>= λr=>Vanbka.number r >>= λv=>eat (isWord "in") v.2 >>= λr=>wu Vanbka.quoted Vanbka.quotedMore r >>= λl=>eat (isSign ";") l.2 >>= λr=>pure (.choice x.1 v.1 l.1,r)):=by
   have aa:a0 D X rd H Q E (yj D) (Vanbka.name r >>= λx=>eat (isSign "=") x.2 >>= λr=>Vanbka.number r >>= λv=>eat (isWord "in") v.2 >>= λr=>Vanbka.quoted r >>= λo=>Vanbka.quotedMore o.2.length o.2 >>= λl=>eat (isSign ";") l.2 >>= λr=>pure (.choice x.1 v.1 (o.1::l.1),r)):=aa;cases h1:Vanbka.name r with
   | error z=>rw [h1] at aa;exact aa
   | ok x =>
    rw [h1] at aa;have aa:a0 D X rd H Q E (yj D) (eat (isSign "=") x.2 >>= λr=>Vanbka.number r >>= λv=>eat (isWord "in") v.2 >>= λr=>Vanbka.quoted r >>= λo=>Vanbka.quotedMore o.2.length o.2 >>= λl=>eat (isSign ";") l.2 >>= λr=>pure (.choice x.1 v.1 (o.1::l.1),r)):=aa
    show a0 D X rd H Q E (yj D) (eat (isSign "=") x.2 >>= _);cases h2:eat (isSign "=") x.2 with
    | error z=>rw [h2] at aa;exact aa
    | ok r2 =>
     rw [h2] at aa;have aa:a0 D X rd H Q E (yj D) (Vanbka.number r2 >>= λv=>eat (isWord "in") v.2 >>= λr=>Vanbka.quoted r >>= λo=>Vanbka.quotedMore o.2.length o.2 >>= λl=>eat (isSign ";") l.2 >>= λr=>pure (.choice x.1 v.1 (o.1::l.1),r)):=aa
     show a0 D X rd H Q E (yj D) (Vanbka.number r2 >>= _);cases h3:Vanbka.number r2 with
     | error z=>rw [h3] at aa;exact aa
     | ok v =>
      rw [h3] at aa;have aa:a0 D X rd H Q E (yj D) (eat (isWord "in") v.2 >>= λr=>Vanbka.quoted r >>= λo=>Vanbka.quotedMore o.2.length o.2 >>= λl=>eat (isSign ";") l.2 >>= λr=>pure (.choice x.1 v.1 (o.1::l.1),r)):=aa
      show a0 D X rd H Q E (yj D) (eat (isWord "in") v.2 >>= _);cases h4:eat (isWord "in") v.2 with
      | error z=>rw [h4] at aa;exact aa
      | ok r4 =>
       rw [h4] at aa;have aa:a0 D X rd H Q E (yj D) (Vanbka.quoted r4 >>= λo=>Vanbka.quotedMore o.2.length o.2 >>= λl=>eat (isSign ";") l.2 >>= λr=>pure (.choice x.1 v.1 (o.1::l.1),r)):=aa
       show a0 D X rd H Q E (yj D) (wu Vanbka.quoted Vanbka.quotedMore r4 >>= λl=>eat (isSign ";") l.2 >>= λr=>pure (.choice x.1 v.1 l.1,r));unfold wu;cases h5:Vanbka.quoted r4 with
       | error z=>rw [h5] at aa;exact aa
       | ok o =>
        rw [h5] at aa;obtain ⟨o1,o2⟩:=o;have aa:a0 D X rd H Q E (yj D) (Vanbka.quotedMore o2.length o2 >>= λl=>eat (isSign ";") l.2 >>= λr=>pure (.choice x.1 v.1 (o1::l.1),r)):=aa
        show a0 D X rd H Q E (yj D) ((Vanbka.quotedMore o2.length o2 >>= λl=>pure (o1::l.1,l.2)) >>= λl=>eat (isSign ";") l.2 >>= λr=>pure (.choice x.1 v.1 l.1,r));cases h6:Vanbka.quotedMore o2.length o2 with
        | error z=>rw [h6] at aa;exact aa
        | ok l=>rw [h6] at aa;exact aa
  refine jcq R1 (jbr aa λx r2 he2 aa v H2 b2 R2 lf=>?_);have ao:=b1.trans b2
  refine ⟨(by show 1<=2 ^ 24;decide),λl ml=>?_⟩;have mlT:=ze R2.st ml
  have aj:=R2.ne ml;have Rbase:a8 D X rd (upd H l (.lst [])) (t::r):=R.updn mlT aj
  have mlH:=xc ao R2 l ml;have sl:jg H2 (upd H2 l (.lst [v])):=jo ml _
  have R2':=R2.same sl;have b02':=ao.then sl
  refine y9 R2' (jxw R2'.wfr) (x_ aa λr3 he3 aa _ H3 b3 R3=>?_);have hl3:H3 l=some (.lst [v]):=b3 _ _ jd aj
  refine ⟨_,rfl,.inl ⟨rfl,_,az.of hl3⟩,?_⟩;refine jjn R3 (jbr aa λk r4 he4 aa v4 H4 b4 R4 e4=>?_);have hl4:H4 l=some (.lst [v]):=b4 _ _ hl3 aj
  refine ⟨l,_,_,rfl,rfl,hl4,(by show 1 < 2 ^ 24;decide),?_⟩;have b04:a7 rd H (upd H4 l (.lst ([v] ++ [v4]))):=((b02'.trans b3).trans b4).updn mlH
  have R4':a8 D X rd (upd H4 l (.lst ([v] ++ [v4]))) r4:=R4.updn mlT aj;refine y9 R4' (jsi R4'.wfr) (x_ aa λr5 he5 aa _ H5 b5 R5=>?_);have hl5:H5 l=some (.lst ([v] ++ [v4])):=b5 _ _ jd aj
  have aq:=b04.trans b5;refine ⟨_,rfl,.inl ⟨rfl,_,az.of hl5⟩,_,rfl,X,rd,r5,rfl,R5,sz,q_ aa λqs r he6 aa v6 H6 b6 R6 n6=>?_⟩;obtain ⟨a6,us,rfl,ha6,lu,hu6⟩:=n6;have hl6:H6 l=some (.lst ([v] ++ [v4])):=b6 _ _ hl5 aj
  have ha6':H6 a6=some (.lst us):=jf8 R6.st _ _ ha6;refine ⟨l,a6,_,_,rfl,rfl,hl6,ha6',(by show 2 + us.length<=2 ^ 24;omega),?_⟩;have bt:a7 rd H (upd H6 l (.lst (([v] ++ [v4]) ++ us))):=(aq.trans b6).updn mlH
  have R':a8 D X rd (upd H6 l (.lst (([v] ++ [v4]) ++ us))) r:=R6.updn mlT aj;have hl:(upd H6 l (.lst (([v] ++ [v4]) ++ us))) l=some (.lst (([v] ++ [v4]) ++ us)):=jd
  have hU:Paired (qo (ay X.T (upd H l (.lst [])) (upd H6 l (.lst (([v] ++ [v4]) ++ us))))) (.bytes x :: .int (k:Nat)::qs.map x8.bytes) (([v] ++ [v4]) ++ us) :=
   .cons (qo.same jbs lf) (.cons e4 (Paired.mapP hu6 λ_ _ z=>qo.same (jcg aq R5 hl5) z))
  refine y9 R' (jkj R'.wfr) (x_ aa λr7 he7 aa _ H7 b7 R7=>?_);have b07:=bt.trans b7
  have hl7:=b7 _ _ hl aj;refine ⟨_,rfl,by decide,λl2 m2=>⟨by decide,λl3 m3=>?_⟩⟩;have gr:=xc b07 R7
  have s1:jg H7 (upd H7 l2 (.lst [])):=jo m2 _;have s2:jg (upd H7 l2 (.lst [])) (upd (upd H7 l2 (.lst [])) l3 (.lst [])):=jo m3 _
  exact yu (ls:=.bytes x :: .int (k:Nat)::qs.map x8.bytes) (ps:=[]) (bs:=[]) (λb z=>gr b (jk (s1.trans s2) z)) (R7.st.trans (s1.trans s2)) (j_ mlT mlH ((s1.trans s2) _ _ hl7)) (j_ (jk R7.st m2) (gr _ m2) (s2 _ _ jd)) (j_ (jk (R7.st.trans s1) m3) (gr _ (jk s1 m3)) jd) ⟨(by show (v::v4::us).length<=1000;rw [List.length_cons,List.length_cons];omega),by decide,by decide⟩ (Paired.mapP hU λ_ _ z=>qo.same ((xz Rbase b7).trans ((xg (s1.trans s2)).trans ww)) z) jbe zt λz H9 sm nd=>aa _ _ (b07.then ((s1.trans s2).trans sm)) (R7.same ((s1.trans s2).trans sm)) nd
theorem jt_:jv ["reader", "kind"] ["reader"] (jj jbm):=fs_
theorem jz9(Kn:jr K mg "read_statement" ["reader"] jbm)(B:z_ P w K mg base D)(W:je3 K mg "SHOWING" (jd5.map V.str))
  (G1:∀ h,ax P w K mg base (xy h 22) "read_binding" ["reader"] (a9 D 1 (N + 1) h [] (λrs=>jq rs∈(["let", "set"]:List Str)) statement (yj D)))
  (G2:∀ h,ax P w K mg base (xy h 22) "read_showing" ["reader"] (a9 D 1 (N + 1) h [] (λrs=>jq rs∈jd5) statement (yj D)))
  (G3:∀ h,ax P w K mg base (xy h 22) "read_if" ["reader"] (a9 D 1 (N + 1) h [] (λrs=>jq rs = "if") statement (yj D)))
  (G4:∀ h,ax P w K mg base (xy h 22) "read_while" ["reader"] (a9 D 1 (N + 1) h [] (λrs=>jq rs = "while") statement (yj D)))
  (G5:∀ h,ax P w K mg base (xy h 22) "read_for" ["reader"] (a9 D 1 (N + 1) h [] (λrs=>jq rs = "for") statement (yj D)))
  (G6:∀ h,ax P w K mg base (xy h 22) "read_slider" ["reader"] (a9 D 1 (N + 1) h [] (λrs=>jq rs = "slider") statement (yj D)))
  (G7:∀ h,ax P w K mg base (xy h 22) "read_choice" ["reader"] (a9 D 1 (N + 1) h [] (λrs=>jq rs = "choice") statement (yj D))) (h:Nat) :
  ax P w K mg base (xy h 23) "read_statement" ["reader"] (a9 D 1 (N + 1) h [] Any statement (yj D)):=by
 refine zk (r:=22) Kn jt_ (λ_ _ _ _ q=>q.len) (λ_ _ _ _ q=>q.le) λhh f ac A outer s H vs Q E hr q=>?_;obtain ⟨X,rd,rs,n,hn,rfl,pre,c0,aa⟩:=q;obtain ⟨R,dp,_,fu,sz⟩:=pre;have cl:=B.rd.c.cl
 have nd:=jt_.nd;have r3:xw 3 _:=hr.mono (by omega)
 have G1:=G1 h;have G2:=G2 h
 have G3:=G3 h;have G4:=G4 h
 have G5:=G5 h;have G6:=G6 h
 have G7:=G7 h;obtain ⟨wa,mW,sW⟩:=W;obtain ⟨fI,au,T⟩:=B.fault;refine ⟨_,(jc (ju (i:=1) nd rfl (Or.inl rfl) (xf B.look cl r3 (pv 0)))
   (jc (qi (js zn (pv 1) (jbw (ja jf (ja jf jb))) rfl) (je (jp (jh G1 hr rfl (ja (pv 0) jb) (xq hh (by decide))))) j3)
   (jc (qi (js zn (pv 1) (vc mW rfl) rfl) (je (jp (jh G2 hr rfl (ja (pv 0) jb) (xq hh (by decide))))) j3)
   (jc (qi (js xi (pv 1) jf (j9 _)) (je (jp (jh G3 hr rfl (ja (pv 0) jb) (xq hh (by decide))))) j3)
   (jc (qi (js xi (pv 1) jf (j9 _)) (je (jp (jh G4 hr rfl (ja (pv 0) jb) (xq hh (by decide))))) j3)
   (jc (qi (js xi (pv 1) jf (j9 _)) (je (jp (jh G5 hr rfl (ja (pv 0) jb) (xq hh (by decide))))) j3)
   (jc (qi (js xi (pv 1) jf (j9 _)) (je (jp (jh G6 hr rfl (ja (pv 0) jb) (xq hh (by decide))))) j3)
   (jc (qi (js xi (pv 1) jf (j9 _)) (je (jp (jh G7 hr rfl (ja (pv 0) jb) (xq hh (by decide))))) j3)
   (je (we T (r3.mono (by decide)) rfl (ja (qz B.cNo rfl) (ja (xf B.here cl r3 (pv 0)) jb)))))))))))),?_⟩
 have w:=R.wfr;have aa:a0 D X rd H Q E (yj D) (statement n rs):=aa
 refine zj R ⟨_,rfl,by decide,λp1 np1=>⟨p1,_,rfl,.inr (be.of jd),rfl,rfl,_,rfl,?_⟩⟩;have sp1:jg H (upd H p1 (.tup [.str "let",.str "set"])):=jo np1 _
 rw [if_neg Bool.false_ne_true,show inV (.str (jq rs)) [.str "let",.str "set"]=decide (jq rs∈(["let", "set"]:List Str)) from jap _ ["let", "set"]];generalize upd H p1 (.tup [.str "let",.str "set"])=Ha at sp1;have Ra:=R.same sp1
 have ba:a7 rd H Ha:=(a7.refl rd H).then sp1;have go:∀ {res:Except Nat (Vanbka.Stmt×qb)},a0 D X rd H Q E (yj D) res->a0 D X rd Ha Q E (yj D) res:=by
  intro res aa;cases res with
  | error l=>exact aa
  | ok p=>exact λv H2 b2 R2 nn=>aa v H2 (ba.trans b2) R2 (jz.same (yf ba Ra) _ _ nn)
 refine qd (λc=>?_) (λc1=>?_)
 ·exact ⟨_,rfl,X,rd,rs,n,hn,rfl,⟨Ra,dp,hh,fu,sz⟩,ot_ c,go aa⟩
 have c1:¬ jq rs∈(["let", "set"]:List Str):=λz=>c1 (dt_ z);refine ⟨_,rfl,wa,_,rfl,.inr (sW _),rfl,by decide,_,rfl,?_⟩;rw [if_neg Bool.false_ne_true,jap];refine qd (λc=>?_) (λc2=>?_)
 ·exact ⟨_,rfl,X,rd,rs,n,hn,rfl,⟨Ra,dp,hh,fu,sz⟩,ot_ c,go aa⟩
 have c2:¬ jq rs∈jd5:=λz=>c2 (dt_ z);refine ⟨_,rfl,rfl,_,rfl,qd (λc=>?_) (λc3=>?_)⟩
 ·exact ⟨_,rfl,X,rd,rs,n,hn,rfl,⟨Ra,dp,hh,fu,sz⟩,wo c,go aa⟩
 refine ⟨_,rfl,rfl,_,rfl,qd (λc=>?_) (λc4=>?_)⟩
 ·exact ⟨_,rfl,X,rd,rs,n,hn,rfl,⟨Ra,dp,hh,fu,sz⟩,wo c,go aa⟩
 refine ⟨_,rfl,rfl,_,rfl,qd (λc=>?_) (λc5=>?_)⟩
 ·exact ⟨_,rfl,X,rd,rs,n,hn,rfl,⟨Ra,dp,hh,fu,sz⟩,wo c,go aa⟩
 refine ⟨_,rfl,rfl,_,rfl,qd (λc=>?_) (λc6=>?_)⟩
 ·exact ⟨_,rfl,X,rd,rs,n,hn,rfl,⟨Ra,dp,hh,fu,sz⟩,wo c,go aa⟩
 refine ⟨_,rfl,rfl,_,rfl,qd (λc=>?_) (λc7=>?_)⟩
 ·exact ⟨_,rfl,X,rd,rs,n,hn,rfl,⟨Ra,dp,hh,fu,sz⟩,wo c,go aa⟩
 have hw:(wordNext rs).bind Vanbka.wayOf=none:=by
  have:=ji6 w;cases hx:(wordNext rs).bind Vanbka.wayOf with
  | none=>rfl
  | some x =>
   rw [hx] at this;exact absurd (ot_ (Bool.and_eq_true_iff.mp this).1) c2
 cases n with
 | zero=>omega
 | succ n =>
  have d1:jq rs≠"let":=λz=>c1 (by rw [z];decide);have d2:jq rs≠"set":=λz=>c1 (by rw [z];decide)
  rw [statement] at aa;dsimp only at aa;rw [jbz w,jby w,jed w,jao w,jco w,w9 w,w_ w,hw,df_ d1,df_ d2,df_ (jac c3),df_ (jac c4),df_ (jac c5),df_ (jac c6),df_ (jac c7)] at aa;exact jkm Ra (yz aa)
abbrev jex:PySem.Stmt:=top 22
abbrev jhp:PySem.Stmt:=top 83
abbrev jcy:PySem.Stmt:=top 85
abbrev jfk:PySem.Stmt:=top 86
structure jyl(K:W.Frag)(mg:Str->Option Value):Prop where
 kExpr:jr K mg "read_expression" ["reader"] je7
 kJoined:jr K mg "read_joined" ["reader", "strength"] jdf
 kSigned:jr K mg "read_signed" ["reader"] jdc
 kReached:jr K mg "read_reached" ["reader"] jck
 kReach:jr K mg "read_reach" ["reader", "left"] jd8
 kListed:jr K mg "read_listed" ["reader", "closing"] jde
 kSimple:jr K mg "read_simple" ["reader"] jdb
 kBrack:jr K mg "read_bracketed" ["reader"] jbn
 kRecord:jr K mg "read_record" ["reader"] jdd
 kFn:jr K mg "read_function" ["reader"] jb2
 kBuilt:jr K mg "read_built_in" ["reader"] jcl
 kBlock:jr K mg "read_block" ["reader"] jd9
 kStmts:jr K mg "read_statements" ["reader", "closing"] ja6
 kStmt:jr K mg "read_statement" ["reader"] jbm
 kBind:jr K mg "read_binding" ["reader"] jcm
 kShow:jr K mg "read_showing" ["reader"] jcj
 kIf:jr K mg "read_if" ["reader"] jik
 kWhile:jr K mg "read_while" ["reader"] jd7
 kFor:jr K mg "read_for" ["reader"] jgn
 kSlider:jr K mg "read_slider" ["reader"] jda
 kChoice:jr K mg "read_choice" ["reader"] jdg
theorem jc3{x:Str}{ps:List Str}{st:PySem.Stmt}{k:Nat}{sp:Sp}(Kn:jr K mg x ps st)(h:∀ vs H Q E,sp vs H Q E->False):ax P w K mg base k x ps sp:=by
 obtain ⟨f,fd,F,bi,kp,m⟩:=Kn;exact ⟨f,fd,⟨λ_ _ _ _ z=>(h _ _ _ _ z).elim,λ_ _ _ _ _ _ _ _ _ _ _ _ _ z=>(h _ _ _ _ z).elim⟩,bi,kp,m⟩
theorem a9.zero{α:Type}{r h:Nat}{xs:List V}{G:qb->Prop}{F:Nat->qb->Except Nat (α×qb)}{rep:Hp->α->V->Prop}(hr:1<=r):∀ vs H Q E,a9 D r 0 h xs G F rep vs H Q E->False:=by
 rintro vs H Q E ⟨X,rd,rs,n,hn,_,p,_⟩;have:=p.fu
 omega
theorem jsx(T:jyl K mg)(B:z_ P w K mg base D)(Jo:ax P w K mg base 1 "joins_at" ["kind", "strength"] jfx)(I:vg P w K mg base D N)(h k:Nat)(k1:1<=k)(k8:k<=8) :
  ax P w K mg base (xy h (21 - k)) "read_joined" ["reader", "strength"] (a9 D (11 - k) (N + 1) h [.int (k:Nat)] Any (λn=>line n k) (ql D)):=by
 have e:21 - k=20 - k + 1:=by omega
 rw [e];by_cases c8:k=8
 ·subst c8;exact jgx T.kJoined B Jo k1 k8 (juy T.kSigned B I h) (λ_=>rfl) (jkd (by decide)) (je2 T.kJoined) (λz=>absurd z (by decide)) (Nat.zero_le _) (je2 T.kJoined) (λz=>absurd z (by decide)) (Nat.zero_le _)
 ·have Jn:=I.line h (k + 1) (by omega) (by omega);by_cases c3:k<=3
  ·exact jgx T.kJoined B Jo k1 k8 (je2 T.kSigned) (λz=>absurd z c8) (Nat.zero_le _) (I.line h 4 (by decide) (by decide)) (λ_=>rfl) (jkd (by omega)) Jn (λ_=>rfl) (jkd (by omega))
  ·exact jgx T.kJoined B Jo k1 k8 (je2 T.kSigned) (λz=>absurd z c8) (Nat.zero_le _) (je2 T.kJoined) (λz=>absurd z c3) (Nat.zero_le _) Jn (λ_=>rfl) (jkd (by omega))
theorem reads(T:jyl K mg)(B:z_ P w K mg base D)(Jo:ax P w K mg base 1 "joins_at" ["kind", "strength"] jfx)(GW:ax P w K mg base 4 "read_whole" ["reader"] (jig D))(GV:ax P w K mg base 4 "read_leaves" ["reader", "kind"] (jb6 D "NAME" Vanbka.name Vanbka.namesMore))
  (GQ:ax P w K mg base 4 "read_leaves" ["reader", "kind"] (jb6 D "QUOTED" Vanbka.quoted Vanbka.quotedMore)) (U:jf_ w K mg) (W:je3 K mg "SHOWING" (jd5.map V.str)):∀ N,vg P w K mg base D N:=by
 intro N;induction N with
 | zero =>
  exact ⟨λh=>jc3 T.kExpr (a9.zero (by decide)),λh k k1 k8=>jc3 T.kJoined (a9.zero (by omega)),λh=>jc3 T.kReached (a9.zero (by decide)),λh=>jc3 T.kSimple (a9.zero (by decide)),λh=>jc3 T.kBlock (a9.zero (by decide)),
   λh z _=>jc3 T.kStmts (a9.zero (by decide)),λh=>jc3 T.kStmt (a9.zero (by decide))⟩
 | succ N I =>
  have GLp:=λh=>jmk j01 T.kListed B I h;have GLb:=λh=>jmk j02 T.kListed B I h
  exact ⟨λh=>j0k T.kExpr B I h,λh k k1 k8=>jsx T B Jo I h k k1 k8,λh=>jr_ T.kReached B I (λh=>jxl T.kReach B I GLp h) h,
   λh=>jux T.kSimple B U GLb (λh=>jxs T.kBrack B I (λh=>juz T.kRecord B I h) h) (λh=>j3r T.kFn B GV I h) (λh=>jxr T.kBuilt B U I h) h,λh=>jxt T.kBlock B I h,λh z hz=>jxi hz T.kStmts B I h,
   λh=>jz9 T.kStmt B W (λh=>j0l T.kBind B I h) (λh=>j0a T.kShow B I h) (λh=>j3q T.kIf B I h) (λh=>jxg T.kWhile B I h) (λh=>j2l T.kFor B I h) (λh=>juw T.kSlider B GW I h) (λh=>ju1 T.kChoice B GQ I h) h⟩
def j1h(CR:Addr):Sp:=λvs H Q _=>∃ x dx lt,vs=[.ref x,.ref lt]/\H x=some (.ins CR dx [])/\∀ H',a7 x H H'->H' x=some (.ins CR dx [("tokens",.ref lt),("at",.int 0)])->Q .non H'
theorem j4n:jv ["self", "tokens"] ["self", "tokens"] (jj vy):=fs_
theorem j3s{f:Addr}{fd:FuncData}(F:Fun K "__init__" "Reader.__init__" vy f fd)(R:jas K mg D.CR):xb P w K mg base (CXF P w) 1 f fd ["self", "tokens"] (j1h D.CR):=by
 refine F.okF (k:=0) j4n (λvs H Q E h=>?_) (λac A outer s H vs Q E hr h=>?_)
 ·obtain ⟨x,dx,lt,rfl,_⟩:=h;rfl
 obtain ⟨x,dx,lt,rfl,hx,q⟩:=h;refine ⟨_,jc (v_ (pv 0) (pv 1) rfl) (je (v_ (pv 0) qe rfl)),?_⟩;refine ⟨_,rfl,_,rfl,x,D.CR,dx,_,rfl,hx,R.c.cl,R.c.no _ (.head _),(by show 0 < 1000;decide),?_⟩;refine ⟨_,rfl,x,D.CR,dx,_,rfl,jd,R.c.cl,R.c.no _ (.tail _ (.head _)),(by show 1 < 1000;decide),?_⟩;exact q _ (((a7.refl x H).updx).updx) (by rw [jd];rfl)
structure jyn(P:Program)(w:World)(K:W.Frag)(mg:Str->Option Value)(base:Heap)(D:Ad)(rI:Addr)(rdI:FuncData):Prop where
 c:zu K mg "Reader" D.CR ["tokens", "at"]
 make:Mk K D.CR rI
 ok:xb P w K mg base (CXF P w) 1 rI rdI ["self", "tokens"] (j1h D.CR)
 b:zl K rdI ["self", "tokens"] []
def jnk(D:Ad):Sp:=λvs H Q E=>∃ (T:Hp) (lt:Addr) (all:qb) (len:Nat) (tr:∀ a C dx fs,T a=some (.ins C dx fs)->fs.lookup ("depth":Str)=none),vs=[.ref lt]/\jg T H/\jwc D.CT T lt all len/\bc all/\tooDeepAt 0 all=none/\all.length<=700/\match Vanbka.program all with
 | .error l=>Err D.CF E 4 (placeAt all len l:Nat)
 | .ok s=>∀ v H',jg H H'->yy D H' s v->Q v H'
theorem juc:jv ["tokens", "reader"] ["tokens"] (jj jex):=fs_
theorem j0b{f rI:Addr}{fd rdI:FuncData}(F:Fun K "read_program" "read_program" jex f fd)(RI:jyn P w K mg base D rI rdI)(I:∀ N,vg P w K mg base D N):xb P w K mg base (CXF P w) 505 f fd ["tokens"] (jnk D):=by
 refine F.okF (k:=504) juc (λvs H Q E h=>?_) (λac A outer s H vs Q E hr h=>?_)
 ·obtain ⟨T,lt,all,len,tr,rfl,_⟩:=h;rfl
 obtain ⟨T,lt,all,len,tr,rfl,st,tk,wf,dp,sz,q⟩:=h;have nd:=juc.nd
 have GS:=(I (Vanbka.enough all)).stmts 0 "END" (.inl rfl);refine ⟨_,(jc (ju (i:=1) nd rfl (Or.inl rfl) (jbq RI.make RI.ok (hr.mono (by decide)) rfl RI.c.m RI.b .nil w8 (ja (pv 0) jb)))
   (je (jp (jh GS hr rfl (ja (pv 1) (ja jf jb)))))),?_⟩
 refine ⟨_,rfl,λx dx nx ndx ne=>⟨x,dx,lt,rfl,jd,λH2 bt e=>⟨rfl,?_⟩⟩⟩;have sm:jg H H2:=a7.same nx ndx bt
 have R:a8 D ⟨T,lt,all,len,tr⟩ x H2 all:=⟨st.trans sm,tk,wf,jk st nx,dx,[],e,rfl⟩
 refine ⟨_,rfl,⟨T,lt,all,len,tr⟩,x,all,Vanbka.enough all,Nat.le_refl _,rfl,⟨R,dp,by decide,by unfold Vanbka.enough;omega,sz⟩,trivial,?_⟩;unfold Vanbka.program at q;unfold v9;cases hs:statements (Vanbka.enough all) all with
 | error l=>rw [hs] at q;exact q
 | ok p =>
  obtain ⟨ss,r⟩:=p;rw [hs] at q;have w2:=jv0 (yl ((Cell.jae _).statements all) hs) wf
  have q:match (if r.isEmpty=true then pure ss else halt_ r:Except Nat Stmts) with
   | .error l=>Err D.CF E 4 (placeAt all len l:Nat)
   | .ok s=>∀ v H',jg H H'->yy D H' s v->Q v H':=q
  show a0 D ⟨T,lt,all,len,tr⟩ x H2 _ E (yy D) (if jq r = "END" then pure (ss,r) else halt_ r);cases r with
  | nil =>
   rw [if_pos (show jq [] = "END" from rfl)];intro v H3 b3 R3 n3;refine q v H3 (λb o eb=>b3 _ _ (sm _ _ eb) (qu eb nx)) ?_;obtain ⟨a,vs,rfl,ha,lv,hN⟩:=n3;have g:jg (ay T H2 H3) H3:=jf8 (X:=⟨T,lt,all,len,tr⟩) R3.st
   exact ⟨a,vs,rfl,g _ _ ha,lv,ji.same g _ _ hN⟩
  | cons t r =>
   rw [if_neg (show ¬ jq (t::r) = "END" from jkp (w2 t (.head _)))];exact q
def jgh(D:Ad):Sp:=λvs H Q E=>∃ (T:Hp) (lt:Addr) (all:qb),vs=[.ref lt]/\jg T H/\jd0 D.CT T lt all/\bc all/\match tooDeepAt 0 all with
 | some p=>Err D.CF E 3 (p:Int)
 | none=>∀ H',jg H H'->Q .non H'
def jin:List Str:=["(", "[", "{"]
def jh8:List Str:=[")", "]", "}"]
theorem jr6:∀ l∈jai,Vanbka.opening l=decide (jy l∈jin)/\Vanbka.closing l=decide (jy l∈jh8):=by decide +kernel
theorem jcb{l:Lex}(h:Wf l):Vanbka.opening l=decide (jy l∈jin)/\Vanbka.closing l=decide (jy l∈jh8):=by
 rcases jab h with hf | ⟨x,rfl,u⟩ | ⟨v,rfl⟩ | ⟨x,rfl⟩
 ·exact jr6 l hf
 ·rw [zr u];exact ⟨rfl,rfl⟩
 ·exact ⟨rfl,rfl⟩
 ·exact ⟨rfl,rfl⟩
theorem j1v:jv ["tokens", "deep", "token"] ["tokens"] (jj jcy):=fs_
theorem jpm{f fI tI:Addr}{fd au aw:FuncData}(F:Fun K "check_brackets" "check_brackets" jcy f fd)(T:v8 K mg D.CF fI au)(U:zz K mg D.CT tI aw)(c1:CI mg "DEEP_BRACKET" 3)(c2:CI mg "DEEPEST_BRACKET" 24)(WO:je3 K mg "OPENING" (jin.map V.str))(WC:je3 K mg "CLOSING" (jh8.map V.str)) :
  xb P w K mg base (CXF P w) 3 f fd ["tokens"] (jgh D):=by
 refine F.okF (k:=2) j1v (λvs H Q E h=>?_) (λac A outer s H vs Q E hr h=>?_)
 ·obtain ⟨T,lt,all,rfl,_⟩:=h;rfl
 obtain ⟨Th,lt,all,rfl,st,⟨xs,hx,pr⟩,wf,q⟩:=h;have nd:=j1v.nd
 obtain ⟨oa,mO,sO⟩:=WO;obtain ⟨ca,mC,sC⟩:=WC;refine ⟨_,(jc (ju (i:=1) nd rfl (Or.inl rfl) qe)
   (je (jdm jad rfl (vz (pv 0)) (yo (i:=2) nd rfl (Or.inl rfl)) (je (qi (js zn (qc (pv 2) rfl) (vc mO rfl) rfl) (jc (jbu (i:=1) nd rfl (Or.inl rfl) qe jdr)
   (je (qi (js jec (pv 1) (qz c2 rfl) (j9 _)) (je (we T hr rfl (ja (qz c1 rfl) (ja (qc (pv 2) rfl) jb)))) j3))) (je (qi (js zn (qc (pv 2) rfl) (vc mC rfl) rfl) (je (jbu (i:=1) nd rfl (Or.inl rfl) qe j2z)) j3))))))),?_⟩
 have hS:az K H lt (xs.map V.ref):=az.of (st _ _ hx);have pl:=Paired.len pr
 refine ⟨_,rfl,lt,rfl,⟨_,hS⟩,λi m σ H'=>m=all.length - i/\i<=all.length/\jg H H'/\∃ (d:Int) (v2:Option V),σ=[some (.ref lt),some (.int d),v2]/\tooDeepAt 0 all=tooDeepAt d (all.drop i),⟨_,rfl,Nat.zero_le _,jg.refl H,0,none,rfl,rfl⟩,?_⟩;rintro i m σ H' ⟨rfl,hi,sm,d,v2,rfl,inv⟩;have hS':=sm.seq hS
 by_cases am:i < all.length
 ·have hlx:i < (xs.map V.ref).length:=by rw [List.length_map];omega
  have hti:all[i]? = some all[i]:=List.getElem?_eq_getElem am;obtain ⟨x,ex,tx⟩:=Paired.get pr hti;have hxi:(xs.map V.ref)[i]? = some (.ref x):=by rw [List.getElem?_map,ex];rfl
  refine .inr ⟨⟨_,_,hS',hxi⟩,λσ' H2=>∃ m',m' < all.length - i/\(m'=all.length - (i + 1)/\i + 1<=all.length/\jg H H2/\∃ (d:Int) (v2:Option V),σ'=[some (.ref lt),some (.int d),v2]/\tooDeepAt 0 all=tooDeepAt d (all.drop (i + 1))),λ_ _ z=>z,?_⟩;rintro y H2 ⟨rfl,hy⟩;have ey:=hy _ hS'
  rw [hxi] at ey;cases ey;obtain ⟨dt,k,p,e,v,ho,hh⟩:∃ (dt:Addr) (k:Str) (p e:Int) (v:V),H2 x=some (.ins D.CT dt (jdw k p e v))/\∃ t r,all.drop i=t::r/\k=jy t.lex/\p=(t.place:Int):=by
   obtain ⟨dt,v,e,_⟩:=tx;exact ⟨dt,_,_,_,_,sm _ _ (st _ _ e),all[i],all.drop (i + 1),List.drop_eq_getElem_cons am,rfl,rfl⟩
  have next':∀ (d':Int) (H3:Hp) (v3:Option V),jg H H3->tooDeepAt d (all.drop i)=tooDeepAt d' (all.drop (i + 1))->∃ m',m' < all.length - i/\(m'=all.length - (i + 1)/\i + 1<=all.length/\jg H H3/\∃ (d:Int) (v2:Option V),([some (.ref lt),some (.int d'),v3]:St)=[some (.ref lt),some (.int d),v2]/\tooDeepAt 0 all=tooDeepAt d (all.drop (i + 1))):=λd' H3 v3 s3 e3 =>
   ⟨_,by omega,rfl,am,s3,d',v3,rfl,inv.trans e3⟩
  refine ⟨_,rfl,x,D.CT,dt,_,_,rfl,ho,U.c.cl,U.c.no _ (.head _),rfl,oa,_,rfl,.inr (sO _),rfl,by decide,_,rfl,?_⟩;have s1:jg H2 H2:=jg.refl _
  rw [if_neg Bool.false_ne_true,jap];refine qd (λc=>?_) (λc=>?_)
  ·have c:=ot_ c;obtain ⟨t,r,hd,rfl,rfl⟩:=hh
   ·have wt:Wf t.lex:=wf t (List.mem_of_mem_drop (i:=i) (by rw [hd];exact .head _));have op:Vanbka.opening t.lex=true:=by rw [(jcb wt).1];exact dt_ c
    have hr':all.drop (i + 1)=r:=by rw [<- List.drop_drop,hd];rfl
    refine ⟨_,rfl,_,_,rfl,rfl,_,rfl,_,_,rfl,rfl,_,rfl,qd (λc3=>?_) (λc3=>?_)⟩
    ·have c3:=ot_ c3;have g:24<=d:=by
      have:(24:Int) < d + 1:=c3;omega
     rw [inv,hd,tooDeepAt,if_pos op,if_pos g] at q;refine ⟨_,rfl,x,D.CT,dt,_,_,rfl,s1 _ _ ho,U.c.cl,U.c.no _ (.tail _ (.head _)),rfl,yz q⟩
    ·have g:¬ 24<=d:=λz=>c3 (dt_ (by show (24:Int) < d + 1;omega));refine next' (d + 1) _ _ (sm.trans s1) ?_;rw [hd,tooDeepAt,if_pos op,if_neg g,hr']
  ·have c:¬ k∈jin:=λz=>c (dt_ z);refine ⟨_,rfl,x,D.CT,dt,_,_,rfl,s1 _ _ ho,U.c.cl,U.c.no _ (.head _),rfl,ca,_,rfl,.inr (sC _),rfl,by decide,_,rfl,?_⟩;have s2:=s1
   rw [if_neg Bool.false_ne_true,jap];refine qd (λc4=>?_) (λc4=>?_)
   ·have c4:=ot_ c4;obtain ⟨t,r,hd,rfl,rfl⟩:=hh
    ·have wt:Wf t.lex:=wf t (List.mem_of_mem_drop (i:=i) (by rw [hd];exact .head _));have op:¬ Vanbka.opening t.lex=true:=by rw [(jcb wt).1];exact λz=>c (ot_ z)
     have cl:Vanbka.closing t.lex=true:=by rw [(jcb wt).2];exact dt_ c4
     have hr':all.drop (i + 1)=r:=by rw [<- List.drop_drop,hd];rfl
     refine ⟨_,rfl,_,_,rfl,rfl,next' (d - 1) _ _ (sm.trans s2) ?_⟩;rw [hd,tooDeepAt,if_neg op,if_pos cl,hr']
   ·have c4:¬ k∈jh8:=λz=>c4 (dt_ z);refine next' d _ _ (sm.trans s2) ?_;obtain ⟨t,r,hd,rfl,rfl⟩:=hh
    ·have wt:Wf t.lex:=wf t (List.mem_of_mem_drop (i:=i) (by rw [hd];exact .head _));have op:¬ Vanbka.opening t.lex=true:=by rw [(jcb wt).1];exact λz=>c (ot_ z)
     have cl:¬ Vanbka.closing t.lex=true:=by rw [(jcb wt).2];exact λz=>c4 (ot_ z)
     have hr':all.drop (i + 1)=r:=by rw [<- List.drop_drop,hd];rfl
     rw [hd,tooDeepAt,if_neg op,if_neg cl,hr']
 ·have e:i=all.length:=by omega
  subst e;rw [List.drop_eq_nil_of_le (by omega)] at inv;rw [inv] at q;exact .inl ⟨⟨_,hS',by rw [List.length_map,pl];exact Nat.le_refl _⟩,q H' sm⟩
def jlf(D:Ad):Sp:=λvs H Q E=>∃ (s:Stmts) (v:V),vs=[v]/\yy D H s v/\if 40 < s.depth then Err D.CF E 5 (s.depth:Int) else ∀ H',jg H H'->Q .non H'
theorem jqm:jv ["program", "depth"] ["program"] (jj jfk):=fs_
theorem jxp{f fI:Addr}{fd au:FuncData}(F:Fun K "check_depth" "check_depth" jfk f fd)(T:v8 K mg D.CF fI au)(G:ax P w K mg base 1 "greatest_depth" ["trees"] (jej K D.CN))(c1:CI mg "DEEP_PROGRAM" 5)(c2:CI mg "DEEPEST_PROGRAM" 40) :
  xb P w K mg base (CXF P w) 3 f fd ["program"] (jlf D):=by
 refine F.okF (k:=2) jqm (λvs H Q E h=>?_) (λac A outer s H vs Q E hr h=>?_)
 ·obtain ⟨ss,v,rfl,_⟩:=h;rfl
 obtain ⟨ss,v,rfl,⟨a,us,rfl,ha,lu,hN⟩,q⟩:=h;have nd:=jqm.nd
 refine ⟨_,(jc (ju (i:=1) nd rfl (Or.inl rfl) (jh G hr rfl (ja (pv 0) jb)))
   (je (qi (js jec (pv 1) (qz c2 rfl) (j9 _)) (je (we T hr rfl (ja (qz c1 rfl) (ja (pv 1) jb)))) j3))),?_⟩
 refine ⟨_,rfl,a,us,_,rfl,az.of ha,hN,by omega,λH1 sm=>?_⟩;rw [jaq];refine ⟨_,rfl,_,_,rfl,rfl,_,rfl,qd (λc=>?_) (λc=>?_)⟩
 ·have c:(40:Int) < (ss.depth:Int):=ot_ c;rw [if_pos (by omega)] at q;exact ⟨_,rfl,yz q⟩
 ·have c:¬ (40:Int) < (ss.depth:Int):=λz=>c (dt_ z);rw [if_neg (by omega)] at q;exact q H1 sm
end
end Prg
end
section
set_option maxRecDepth 100000
set_option maxHeartbeats 1000000
namespace L2
open PySem PySem.Spec PyProof.Rows
def j3g(C:Addr)(tb:XK->TS)(ts:TS):TS:=λD σ H=>∃ EB:XK,tb EB D σ H/\∀ C' dxo H',EB C' dxo H'->C' = .ref C/\∃ dx,dxo=some dx/\∀ (σ':St) (H2:Hp),σ'.length=σ.length->jg H' H2->ts { nx:=λ_ _=>False,rt:=D.rt } σ' H2
theorem jzw{X:Cx}{body suite:List Stmt}{b0:Stmt}{cn:Str}{np hpos pos:Pos}{C fI:Addr}{fs:List Str}{tb:XK->TS}{ts:TS}
  (hst:X.stack=X.env::X.outer) (hf:X.env.frame=some X.env.locals) (hex:X.ex=[]) (hg:Gl X cn) (hm:X.mg cn=some (.ref C)) (q:jch X.K C fI fs=true)
  (hb:∀ (pn:List (Addr×Obj)) (EB:XK) (E':Value->Shared->Prop),jav (CXF X.prog X.w) (X.with pn E') EB->PSs (X.with pn E') body (tb EB))
  (hs:∀ (pn:List (Addr×Obj)) (e:Value),PSs (X.clause pn e) (b0::suite) ts) (hdb:(cn == ("__debug__":Str))=false:=by decide) :
  PS X (.Try body [.ExceptHandler (some (.Name cn np)) none (b0::suite) hpos] [] [] pos) (j3g C tb ts):=by
 intro pins s σ H D I h;obtain ⟨EB,hB,hH⟩:=h;refine wpAny_Try_except ?_;have ok:=I.ok
 have key:∀ (E':Value->Shared->Prop),(∀ e s1,E' e s1↔wpAny (model X.prog X.w) X.A (noteFrame e X.env) (λ_ s₂=>wpAny (model X.prog X.w) X.A (setFlight e none) (λ_ s₃ =>
   wpAny (model X.prog X.w) X.A (handleBy e X.env [.ExceptHandler (some (.Name cn np)) none (b0::suite) hpos]) (SP X pins D) X.xe s₃) X.xe s₂) X.xe s1)->jav (CXF X.prog X.w) (X.with (X.pn ++ pins) E') EB:=by
  intro E' hE' pins' σ1 H1 s1 e s2 I1 c;refine (hE' e s2).mpr ?_;refine jtt (X:=X.with (X.pn ++ pins) E') hst hf hex I1 c (λx T C' dx H2 H3 s3 ee hE nx sm ex eT ar I3=>?_) rfl;subst ee;obtain ⟨rfl,dx',edx,hH2⟩:=hH C' (some dx) H2 hE;cases edx;have J:=I3.toClause ok (.ref x)
  obtain ⟨nm,qn,N,bs,sn,sub,ab,col,dd,c0,c1,c2,c3,c5,mN,hC,_⟩:=jeq J.kIn q;obtain ⟨⟨o,vs,hx,hc,hdx,hd,h1⟩,_,_⟩:=id ar;refine wpAny_handleBy_cons (codeAny_handlers_test (jf5 J hg hm ?_ hdb)) (by intro z;cases z);obtain ⟨hp,g,dr,tk,os⟩:=s3;refine wpAny_excMatches_sub_self hC hx hc (by decide) ?_;refine codeAny_handlers_suite ?_;refine jpb J eT ar λs4 ar4 J4=>?_;refine wpAny_mono (hs _ (.ref x) pins' s4 _ _ _ J4 (hH2 σ1 _ ?_ sm)) (λfl s6 z=>?_) (λ_ _ z=>z.elim)
  ·rw [I.len,I1.len]
  ·cases fl with
   | next=>obtain ⟨_,_,_,z⟩:=z;exact z.elim
   | brk=>obtain ⟨_,_,_,z⟩:=z;exact z.elim
   | cont=>obtain ⟨_,_,_,z⟩:=z;exact z.elim
   | ret u =>
    obtain ⟨v,σ6,H6,J7,ru,q6⟩:=z;exact ⟨v,_,H6,J7.ofClause ok,ru,q6⟩
 refine wpAny_mono (hb (X.pn ++ pins) EB _ (key _ λ_ _=>Iff.rfl) [] s σ H D (I.toPn _) hB) (λf s1 z=>?_) (λ_ _ z=>z);cases f with
 | next =>
  obtain ⟨σ',H',I',z⟩:=z;exact wpAny_execs_nil ⟨σ',H',I'.ofPn ok,z⟩
 | brk=>obtain ⟨σ',H',I',z⟩:=z;exact ⟨σ',H',I'.ofPn ok,z⟩
 | cont=>obtain ⟨σ',H',I',z⟩:=z;exact ⟨σ',H',I'.ofPn ok,z⟩
 | ret u=>obtain ⟨v,σ',H',I',ru,z⟩:=z;exact ⟨v,σ',H',I'.ofPn ok,ru,z⟩
end L2
end
section
set_option maxRecDepth 100000
set_option maxHeartbeats 4000000
namespace Prg
open PySem L2
open Vanbka (Bytes)
abbrev jff:PySem.Stmt:=top 84
abbrev jjd:PySem.Stmt:=top 121
section
variable{P:Program}{w:World}{K:W.Frag}{mg:Str->Option Value}{base:Heap}{f CF CT:Addr}{fd:FuncData}
def jih(K:W.Frag)(CF CT:Addr):Sp:=λvs H Q E=>∃ (a:Addr) (t:Bytes),vs=[.ref a]/\az K H a (vb t)/\t.length<=900000/\match t.findIdx? (λc => !Vanbka.allowed c) with
 | some p=>Err CF E 1 (p:Int)
 | none=>match Vanbka.tokens t with
  | .error p=>Err CF E 2 (p:Int)
  | .ok ts=>∀ l H',jg H H'->jd0 CT (ay noH H H') l ts->Q (.ref l) H'
theorem jzo:jv ["text"] ["text"] (jj jff):=fs_
theorem jxk(F:Fun K "read_tokens" "read_tokens" jff f fd)(G1:ax P w K mg base 3 "check_bytes" ["text"] (jlg K CF))(G2:ax P w K mg base 5 "cut_tokens" ["text"] (jja K CF CT)):xb P w K mg base (CXF P w) 6 f fd ["text"] (jih K CF CT):=by
 refine F.okF (k:=5) jzo (λvs H Q E h=>?_) (λac A outer s H vs Q E hr h=>?_)
 ·obtain ⟨a,t,rfl,_⟩:=h;rfl
 obtain ⟨a,t,rfl,hS,ak,q⟩:=h;refine ⟨_,jc (j6 (jh G1 hr rfl (ja (pv 0) jb))) (je (jp (jh G2 hr rfl (ja (pv 0) jb)))),?_⟩;refine ⟨_,rfl,a,t,rfl,hS,?_⟩;cases hf:t.findIdx? (λc => !Vanbka.allowed c) with
 | some p=>rw [hf] at q;exact q
 | none =>
  rw [hf] at q;intro H1 s1;refine ⟨_,rfl,a,t,rfl,s1.seq hS,ak,?_⟩;cases ht:Vanbka.tokens t with
  | error p=>rw [ht] at q;exact q
  | ok ts =>
   rw [ht] at q;exact λl H2 s2 tk=>q l H2 (s1.trans s2) (jd0.same (jbi (λb z=>jk s1 z) λ_ _ _ z=>z) tk)
def jnm(K:W.Frag):Sp:=λvs H Q _=>∃ (a:Addr) (t:Bytes),vs=[.ref a]/\az K H a (vb t)/\Q (.bl (decide (Vanbka.LONGEST < t.length))) H
theorem j1o:jv ["text"] ["text"] (jj jjd):=fs_
theorem j0f(F:Fun K "is_too_long" "is_too_long" jjd f fd)(ml:mg "len"=none)(c1:CI mg "LONGEST_TEXT" 600):xb P w K mg base (CXF P w) 1 f fd ["text"] (jnm K):=by
 refine F.okF (k:=0) j1o (λvs H Q E h=>?_) (λac A outer s H vs Q E hr h=>?_)
 ·obtain ⟨a,t,rfl,_⟩:=h;rfl
 obtain ⟨a,t,rfl,hS,q⟩:=h;refine ⟨_,je (jp (jim jec (ye xu rfl ml PySem.boot_len (ja (pv 0) jb)) (qz c1 rfl) (j9 _))),?_⟩;refine ⟨_,rfl,a,_,rfl,.inl hS,_,_,rfl,rfl,?_⟩;have e:decide ((600:Int) < ((vb t).length:Int))=decide (Vanbka.LONGEST < t.length):=decide_eq_decide.mpr (by
  rw [xx];unfold Vanbka.LONGEST;omega)
 rw [<- e] at q;exact q
end
def told(x:Vanbka.Answer):List Int:=match x with
 | .refused n=>[n]
 | .told l=>l
def spT(K:W.Frag)(g:Bytes->Vanbka.Answer):Sp:=λvs H Q _=>∃ (a:Addr) (t:Bytes),vs=[.ref a]/\az K H a (vb t)/\∀ l H',H' l=some (.lst ((told (g t)).map V.int))->Q (.ref l) H'
open Vanbka (Lex reserved isSign isWord next nameNext wordNext eat b halt_ placeAt tooDeepAt Op Prim Way Exprs Fields Stmts opNext chain line simple reach listed more fields parts inBrackets function block statements statement)
section
variable{P:Program}{w:World}{K:W.Frag}{mg:Str->Option Value}{base:Heap}{D:Ad}
abbrev jhr:PySem.Stmt:=top 70
def jrq(K:W.Frag)(CT:Addr):Sp:=λvs H Q _=>∃ (a:Addr) (t:Bytes),vs=[.ref a]/\az K H a (vb t)/\∀ x H',jg H H'->jnb CT H' x t.length->Q (.ref x) H'
theorem j3m:jv ["text"] ["text"] (jj jhr):=fs_
theorem j2m{f CT tI:Addr}{fd aw:FuncData}(F:Fun K "end_token" "end_token" jhr f fd)(U:zz K mg CT tI aw)(ml:mg "len"=none):xb P w K mg base (CXF P w) 3 f fd ["text"] (jrq K CT):=by
 refine F.okF (k:=2) j3m (λvs H Q E h=>?_) (λac A outer s H vs Q E hr h=>?_)
 ·obtain ⟨a,t,rfl,_⟩:=h;rfl
 obtain ⟨a,t,rfl,hS,q⟩:=h;refine ⟨_,je (jp (jbq U.make (jgy U) hr rfl U.c.m U.b .nil w8
    (ja jf (ja (ye xu rfl ml PySem.boot_len (ja (pv 0) jb)) (ja (ye xu rfl ml PySem.boot_len (ja (pv 0) jb)) (ja jf3 jb)))))),?_⟩
 refine ⟨_,rfl,a,_,rfl,.inl hS,_,rfl,a,_,rfl,.inl hS,λx dx nx ndx ne=>⟨x,dx,_,_,_,_,rfl,jd,λH2 b e=>⟨rfl,q x H2 (a7.same nx ndx b) ⟨dx,?_⟩⟩⟩⟩;rw [<- xx t];exact e
def jfs(T:Hp):Hp:=λb=>match T b with
 | some (.ins C dx fs)=>if fs.lookup ("depth":Str)=none then some (.ins C dx fs) else none
 | o=>o
theorem jz4{T:Hp}:∀ a C dx fs,jfs T a=some (.ins C dx fs)->fs.lookup ("depth":Str)=none:=by
 intro a C dx fs h;unfold jfs at h;split at h
 ·split at h
  ·rename_i c;injection h with h;injection h with _ _ h;rw [<- h];exact c
  ·cases h
 ·rename_i n;exact absurd h (n C dx fs)
theorem jxc{T:Hp}:jg (jfs T) T:=λb o h=>by
 unfold jfs at h;split at h
 ·rename_i e;split at h
  ·rw [e];exact h
  ·cases h
 ·exact h
theorem jok{T:Hp}{a:Addr}{us:List V}(h:T a=some (.lst us)):jfs T a=some (.lst us):=by
 unfold jfs;rw [h]
theorem joj{T:Hp}{a C dx:Addr}{k:Str}{p e:Int}{v:V}(h:T a=some (.ins C dx (jdw k p e v))):jfs T a=some (.ins C dx (jdw k p e v)):=by
 unfold jfs;rw [h];exact if_pos rfl
theorem vv.only{CT:Addr}{H:Hp}{x:Addr}{t:Vanbka.Tok}(h:vv CT H x t):vv CT (jfs H) x t:=by
 obtain ⟨dx,v,e,q⟩:=h;exact ⟨dx,v,joj e,q.lists λ_ _ z=>jok z⟩
def jj6(K:W.Frag)(D:Ad):Sp:=λvs H Q E=>∃ (a:Addr) (t:Bytes),vs=[.ref a]/\az K H a (vb t)/\t.length<=600/\match Vanbka.read t with
 | .error e=>Err D.CF E (e.1:Nat) (e.2:Nat)
 | .ok s=>∀ v H',jg H H'->yy D H' s v->Q v H'
theorem jug:jv ["text", "tokens", "program"] ["text"] (jj jhp):=fs_
theorem yy.same{H H':Hp}{s:Stmts}{v:V}(sm:jg H H')(h:yy D H s v):yy D H' s v:=by
 obtain ⟨a,vs,e,ha,lv,hN⟩:=h;exact ⟨a,vs,e,sm _ _ ha,lv,ji.same sm _ _ hN⟩
theorem j0j{f:Addr}{fd:FuncData}(F:Fun K "read_good" "read_good" jhp f fd)(GR:ax P w K mg base 6 "read_tokens" ["text"] (jih K D.CF D.CT))(GE:ax P w K mg base 3 "end_token" ["text"] (jrq K D.CT))(G3:ax P w K mg base 3 "check_brackets" ["tokens"] (jgh D))
  (G4:ax P w K mg base 505 "read_program" ["tokens"] (jnk D)) (G5:ax P w K mg base 3 "check_depth" ["program"] (jlf D)):xb P w K mg base (CXF P w) 506 f fd ["text"] (jj6 K D):=by
 refine F.okF (k:=505) jug (λvs H Q E h=>?_) (λac A outer s H vs Q E hr h=>?_)
 ·obtain ⟨a,t,rfl,_⟩:=h;rfl
 obtain ⟨a,t,rfl,hS,ak,q⟩:=h;have nd:=jug.nd
 refine ⟨_,(jc (ju (i:=1) nd rfl (Or.inl rfl) (jh GR hr rfl (ja (pv 0) jb)))
   (jc (j6 (jh G3 hr rfl (ja (pv 1) jb)))
   (jc (ju (i:=2) nd rfl (Or.inl rfl) (jh G4 hr rfl (ja (qa qh (pv 1) (j5 (ja (jh GE hr rfl (ja (pv 0) jb)) jb))) jb)))
   (jc (j6 (jh G5 hr rfl (ja (pv 2) jb)))
   (je (jp (pv 2))))))),?_⟩
 unfold Vanbka.read at q;refine ⟨_,rfl,a,t,rfl,hS,by omega,?_⟩;cases hf:t.findIdx? (λc => !Vanbka.allowed c) with
 | some p=>rw [hf] at q;exact q
 | none =>
  rw [hf] at q;cases ht:Vanbka.tokens t with
  | error p=>rw [ht] at q;exact q
  | ok ts =>
   rw [ht] at q;dsimp only at q;intro lt H2 s2 tk;have sT:jg (ay noH H H2) H2:=λb o e=>by
    rcases jak e with z | ⟨_,_,z⟩
    ·cases z
    ·exact z
   have wf:bc ts:=jhf _ _ _ _ ht;have ln:ts.length<=t.length:=jgd _ _ _ _ ht
   refine ⟨_,rfl,H2,lt,ts,rfl,jg.refl H2,jd0.same sT tk,wf,?_⟩;cases hd:tooDeepAt 0 ts with
   | some p=>rw [hd] at q;exact q
   | none =>
    rw [hd] at q;dsimp only at q;intro H3 s3;refine ⟨_,rfl,_,rfl,a,t,rfl,(s2.trans s3).seq hS,λx H4 s4 en=>⟨by show 1<=2 ^ 24;decide,λl1 m1=>?_⟩⟩;obtain ⟨xs,hx,pr⟩:=jd0.same ((sT.trans s3).trans s4) tk;have pl:=Paired.len pr
    have s5:jg H4 (upd H4 l1 (.lst [.ref x])):=jo m1 _;refine ⟨lt,l1,_,_,rfl,rfl,s5 _ _ hx,jd,?_,λp mp=>?_⟩
    ·rw [List.length_map,pl];show ts.length + 1<=2 ^ 24
     omega
    have s6:=s5.trans (jo mp (.lst (xs.map V.ref ++ [.ref x])));refine ⟨jfs _,p,ts,t.length,jz4,rfl,jxc,⟨xs ++ [x],?_,?_⟩,wf,hd,by omega,?_⟩
    ·refine jok ?_;rw [jd,List.map_append];rfl
    ·refine Paired.snoc (Paired.mapR (G:=j29 D.CT _ t.length) (g:=some) (λ_ _ z=>vv.only (vv.same s6 z)) pr) ?_;obtain ⟨dx,e⟩:=en;exact ⟨dx,joj (s6 _ _ e)⟩
    cases hp:Vanbka.program ts with
    | error l=>rw [hp] at q;exact q
    | ok ss =>
     rw [hp] at q;dsimp only at q;intro v H7 s7 rp;refine ⟨_,rfl,ss,v,rfl,rp,?_⟩;have q:match (if 40 < ss.depth then .error (5,ss.depth) else .ok ss:Except (Nat×Nat) Stmts) with
      | .error e=>Err D.CF E (e.1:Nat) (e.2:Nat)
      | .ok s=>∀ v H',jg H H'->yy D H' s v->Q v H':=q
     by_cases c:40 < ss.depth
     ·rw [if_pos c] at q ⊢;exact q
     ·rw [if_neg c] at q ⊢;intro H8 s8;exact ⟨_,rfl,q v H8 (s2.trans (s3.trans (s4.trans (s6.trans (s7.trans s8))))) (yy.same s8 rp)⟩
def MT(te:TE)(σ:St)(H:Hp)(x:Bytes):Prop:=∀ H',jg H H'->∀ Q:VK,(∀ a H2,jg H' H2->H2 a=some (.lst (vb x))->Q (.ref a) H2)->te σ H' Q
theorem MT.var{σ:St}{H:Hp}{i:Nat}{a:Addr}{x:Bytes}(e:σ[i]? = some (some (.ref a)))(h:H a=some (.lst (vb x))):MT (qy i) σ H x:=λH' s Q q=>⟨_,e,q a H' (jg.refl H') (s _ _ h)⟩
structure qp(D:Ad)(H:Hp)(x:Addr)(k:Str)(ls:List x8)(ps:List jw)(bs:List (List jw)):Prop where
 ex:∃ (dx:TX) (a1 a2 a3:Addr) (ah af ag:List V) (d:Nat),H x=some (.ins D.CN dx.d (je4 k a1 a2 a3 dx d))/\H a1=some (.lst ah)/\H a2=some (.lst af)/\H a3=some (.lst ag)/\(ah.length<=1000/\af.length<=1000/\ag.length<=1000)/\Paired (qo H) ls ah/\ji D.CN H ps af/\qr D.CN H bs ag
theorem qp.of{H:Hp}{k:Str}{ls:List x8}{ps:List jw}{bs:List (List jw)}{v:V}(h:jz D.CN H (.mk k ls ps bs) v):∃ x,v = .ref x/\qp D H x k ls ps bs:=by
 obtain ⟨x,dx,a1,a2,a3,ah,af,ag,e,h1⟩:=h;exact ⟨x,e,dx,a1,a2,a3,ah,af,ag,_,h1⟩
theorem qp.same{H H':Hp}{x:Addr}{k:Str}{ls:List x8}{ps:List jw}{bs:List (List jw)}(s:jg H H')(h:qp D H x k ls ps bs):qp D H' x k ls ps bs:=by
 obtain ⟨dx,a1,a2,a3,ah,af,ag,d,h1,h2,h3,h4,sz,h5,h6,h7⟩:=h.ex;exact ⟨dx,a1,a2,a3,ah,af,ag,d,s _ _ h1,s _ _ h2,s _ _ h3,s _ _ h4,sz,Paired.mapP h5 λ_ _ z=>z.same s,h6.same s,h7.same s⟩
variable{C:zu K mg "Tree" D.CN ["kind", "leaves", "parts", "blocks", "depth", "place", "end"]}
theorem qx(C:zu K mg "Tree" D.CN ["kind", "leaves", "parts", "blocks", "depth", "place", "end"]){H:Hp}{x:Addr}{k:Str}{ls:List x8}{ps:List jw}{bs:List (List jw)}{σ:St}{i:Nat}{Q:VK}(T:qp D H x k ls ps bs)(hi:σ[i]? = some (some (.ref x)))(q:Q (.str k) H):ja4 K (qy i) "kind" σ H Q:=by
 obtain ⟨dx,a1,a2,a3,ah,af,ag,d,h1,h2,h3,h4,sz,h5,h6,h7⟩:=T.ex;exact ⟨_,hi,x,D.CN,dx,_,_,rfl,h1,C.cl,C.no _ (.head _),rfl,q⟩
theorem j1b(C:zu K mg "Tree" D.CN ["kind", "leaves", "parts", "blocks", "depth", "place", "end"]){H:Hp}{x:Addr}{k:Str}{ls:List x8}{ps:List jw}{bs:List (List jw)}{σ:St}{i j:Nat}{Q:VK}{y:jw}(T:qp D H x k ls ps bs)(hi:σ[i]? = some (some (.ref x)))(hj:ps[j]? = some y)(q:∀ v,jz D.CN H y v->Q v H) :
  tOp (jgu K) (ja4 K (qy i) "parts") (tC (.int (j:Int))) σ H Q:=by
 obtain ⟨dx,a1,a2,a3,ah,af,ag,d,h1,h2,h3,h4,sz,h5,h6,h7⟩:=T.ex;obtain ⟨v,e,n⟩:=ji.get ps af h6 j y hj;exact ⟨_,hi,x,D.CN,dx,_,_,rfl,h1,C.cl,C.no _ (.tail _ (.tail _ (.head _))),rfl,a2,af,j,v,rfl,rfl,az.of h3,ja3 e,q v n⟩
theorem jni(C:zu K mg "Tree" D.CN ["kind", "leaves", "parts", "blocks", "depth", "place", "end"]){H:Hp}{x:Addr}{k:Str}{ls:List x8}{ps:List jw}{bs:List (List jw)}{σ:St}{i j:Nat}{Q:VK}{y:x8}(T:qp D H x k ls ps bs)(hi:σ[i]? = some (some (.ref x)))(hj:ls[j]? = some y)(q:∀ v,qo H y v->Q v H) :
  tOp (jgu K) (ja4 K (qy i) "leaves") (tC (.int (j:Int))) σ H Q:=by
 obtain ⟨dx,a1,a2,a3,ah,af,ag,d,h1,h2,h3,h4,sz,h5,h6,h7⟩:=T.ex;have h5':Paired (λv l=>qo H l v) ah ls:=by
  clear h6 h7 sz h2 h3 h4 hj q T;induction h5 with
  | nil=>exact .nil
  | cons r t ih=>exact .cons r ih
 obtain ⟨v,e,n⟩:=Paired.get h5' hj;exact ⟨_,hi,x,D.CN,dx,_,_,rfl,h1,C.cl,C.no _ (.tail _ (.head _)),rfl,a1,ah,j,v,rfl,rfl,az.of h2,ja3 e,q v n⟩
theorem jcw(C:zu K mg "Tree" D.CN ["kind", "leaves", "parts", "blocks", "depth", "place", "end"]){H:Hp}{x:Addr}{k:Str}{ls:List x8}{ps:List jw}{bs:List (List jw)}{σ:St}{i j:Nat}{u:Bytes}(T:qp D H x k ls ps bs)(hi:σ[i]? = some (some (.ref x)))(hj:ls[j]? = some (.bytes u)) :
  MT (tOp (jgu K) (ja4 K (qy i) "leaves") (tC (.int (j:Int)))) σ H u:=λH' s Q q=>jni C (T.same s) hi hj λv hv=>by
 obtain ⟨a,rfl,e⟩:=hv;exact q a H' (jg.refl H') e
theorem wk{x:Str}{ps N:List Str}{st:PySem.Stmt}{sp:Sp}{k:Nat}(Kn:jr K mg x ps st)(S:jv N ps (jj st))(len:∀ vs H Q E,sp vs H Q E->vs.length=ps.length)
  (body:∀ (f:Addr) (ac:Value) (A:Around) (outer:List Env) (s:Shared) (H:Hp) (vs:List V) (Q:VK) (E:XK),xw k (A.deeper (PyProof.Rows.envOfC x (jj st) s.heap.objs.size f ac))->sp vs H Q E->
   ∃ t,PSs (xt (CXF P w) P w K mg base N x (jj st) f ac A outer s H E) (z9 st) t/\t { nx:=λ_ H'=>Q .non H',rt:=Q } (jc9 N vs) H):ax P w K mg base (k + 1) x ps sp:=by
 obtain ⟨f,fd,F,bi,kp,m⟩:=Kn;exact ⟨f,fd,F.okF S len (λac A outer s H vs Q E hr hs=>body f ac A outer s H vs Q E hr hs),bi,kp,m⟩
theorem jvn{x:Str}{ps:List Str}{st:PySem.Stmt}{sp:Sp}{k:Nat}(Kn:jr K mg x ps st)(no:∀ vs H Q E,¬ sp vs H Q E):ax P w K mg base k x ps sp:=by
 obtain ⟨f,fd,F,bi,kp,m⟩:=Kn;exact ⟨f,fd,⟨λvs H Q E h=>absurd h (no _ _ _ _),λA outer s H args us vs Q E hr he hb hv hs=>absurd hs (no _ _ _ _)⟩,bi,kp,m⟩
def AT(t:TA)(σ:St)(H:Hp)(R:List V->Hp->Prop):Prop:=∀ H',jg H H'->∀ Q:List V->Hp->Prop,(∀ vs H2,jg H' H2->R vs H2->Q vs H2)->t σ H' Q
def LT(K:W.Frag)(te:TE)(σ:St)(H:Hp)(us:List V):Prop:=∀ H',jg H H'->∀ Q:VK,(∀ a H2,jg H' H2->az K H2 a us->Q (.ref a) H2)->te σ H' Q
theorem LT.var{σ:St}{H:Hp}{i:Nat}{a:Addr}{us:List V}(e:σ[i]? = some (some (.ref a)))(h:az K H a us):LT K (qy i) σ H us:=λH' s Q q=>⟨_,e,q a H' (jg.refl H') (s.seq h)⟩
theorem rl{a b d:Nat}(h:a<=b):a<=5 * d + b:=Nat.le_trans h (Nat.le_add_left _ _)
theorem rm{a b d:Nat}(h:a<=b):5 * d + a<=5 * d + b:=Nat.add_le_add_left h _
theorem rk{a b d:Nat}(h:a<=5 * d + b:=by first | exact rl (by decide) | exact rm (by decide) | omega):a<=5 * d + b:=h
abbrev MW:Nat:=450000
abbrev j3d:Vanbka.Expr->Prop:=λ_=>True
abbrev jtk:Vanbka.Stmt->Prop:=λ_=>True
theorem j1a{σ:St}{H:Hp}{k:Nat}:∀ H',jg H H'->∀ Q:VK,Q (.int (k:Int)) H'->(tC (.int (k:Int))) σ H' Q:=λ_ _ _ q=>q
theorem LT.parts{σ:St}{H:Hp}{i:Nat}{x:Addr}{z:Str}{ls:List x8}{ps:List jw}{bs:List (List jw)}(C:zu K mg "Tree" D.CN ["kind", "leaves", "parts", "blocks", "depth", "place", "end"])(T:qp D H x z ls ps bs)(hi:σ[i]? = some (some (.ref x))):∃ af,af.length<=1000/\ji D.CN H ps af/\LT K (ja4 K (qy i) "parts") σ H af:=by
 obtain ⟨dx,a1,a2,a3,ah,af,ag,d,h1,h2,h3,h4,sz,h5,h6,h7⟩:=T.ex;exact ⟨af,sz.2.1,h6,λH' s Q q=>⟨_,hi,x,D.CN,dx,_,_,rfl,s _ _ h1,C.cl,C.no _ (.tail _ (.tail _ (.head _))),rfl,q a2 H' (jg.refl _) (az.of (s _ _ h3))⟩⟩
theorem LT.blocks{σ:St}{H:Hp}{i:Nat}{x:Addr}{z:Str}{ls:List x8}{ps:List jw}{bs:List (List jw)}(C:zu K mg "Tree" D.CN ["kind", "leaves", "parts", "blocks", "depth", "place", "end"])(T:qp D H x z ls ps bs)(hi:σ[i]? = some (some (.ref x))):∃ ag,ag.length<=1000/\qr D.CN H bs ag/\LT K (ja4 K (qy i) "blocks") σ H ag:=by
 obtain ⟨dx,a1,a2,a3,ah,af,ag,d,h1,h2,h3,h4,sz,h5,h6,h7⟩:=T.ex;exact ⟨ag,sz.2.2,h7,λH' s Q q=>⟨_,hi,x,D.CN,dx,_,_,rfl,s _ _ h1,C.cl,C.no _ (.tail _ (.tail _ (.tail _ (.head _)))),rfl,q a3 H' (jg.refl _) (az.of (s _ _ h4))⟩⟩
theorem LT.leaves{σ:St}{H:Hp}{i:Nat}{x:Addr}{z:Str}{ls:List x8}{ps:List jw}{bs:List (List jw)}(C:zu K mg "Tree" D.CN ["kind", "leaves", "parts", "blocks", "depth", "place", "end"])(T:qp D H x z ls ps bs)(hi:σ[i]? = some (some (.ref x))):∃ ah,ah.length<=1000/\Paired (qo H) ls ah/\LT K (ja4 K (qy i) "leaves") σ H ah:=by
 obtain ⟨dx,a1,a2,a3,ah,af,ag,d,h1,h2,h3,h4,sz,h5,h6,h7⟩:=T.ex;exact ⟨ah,sz.1,h5,λH' s Q q=>⟨_,hi,x,D.CN,dx,_,_,rfl,s _ _ h1,C.cl,C.no _ (.tail _ (.head _)),rfl,q a1 H' (jg.refl _) (az.of (s _ _ h2))⟩⟩
theorem jyb{xs:List V}{n:Nat}(h:n<=xs.length):jfp xs (some (n:Int)) none=xs.drop n:=by
 unfold jfp;rw [HT.jf1,HT.jwu,Nat.min_eq_left h,List.take_of_length_le (by rw [List.length_drop];exact Nat.le_refl _)]
theorem LT.from{σ:St}{H:Hp}{te:TE}{us:List V}{n:Nat}(h:LT K te σ H us)(hn:n<=us.length):LT K (tSl (j12 K) te (jyt (tC (.int (n:Int)))) jqa) σ H (us.drop n):=λH' s Q q =>
 h H' s _ λa H2 s2 hS=>⟨_,rfl,a,us,rfl,hS,λp np=>q p _ (s2.trans (jo np _)) (by rw [jyb hn];exact az.of jd)⟩
def wg(H:Hp)(as:List Addr)(xs:List Bytes):Prop:=Paired (λa x=>H a=some (.lst (vb x))) as xs
theorem jx3{H:Hp}{ls:List x8}{ah:List V}(h:Paired (qo H) ls ah){j:Nat}{y:x8}(hj:ls[j]? = some y):∃ v,ah[j]? = some v/\qo H y v:=by
 have h5':Paired (λv l=>qo H l v) ah ls:=by
  clear hj;induction h with
  | nil=>exact .nil
  | cons r t ih=>exact .cons r ih
 exact Paired.get (F:=λv l=>qo H l v) h5' hj
theorem jdz{H:Hp}:∀ {ps:List Bytes} {vr:List V},Paired (qo H) (ps.map x8.bytes) vr->∃ as:List Addr,vr=as.map V.ref/\wg H as ps
 | [],[],_=>⟨[],rfl,.nil⟩
 | p::ps,v::vr,.cons r t=>by
  obtain ⟨as,rfl,hp⟩:=jdz t;obtain ⟨a,rfl,e⟩:=r;exact ⟨a::as,rfl,.cons e hp⟩
theorem AT.of{te:TE}{σ:St}{H:Hp}{us:List V}{R:List V->Hp->Prop}(h:LT K te σ H us)(r:∀ a H2,jg H H2->az K H2 a us->R [.ref a] H2):AT (qk te xh) σ H R:=λH' s Q q =>
 h H' s _ λa H2 s2 hS=>q _ H2 s2 (r a H2 (s.trans s2) hS)
theorem AT.tree{σ:St}{H:Hp}{i:Nat}{v:V}{R:List V->Hp->Prop}(hi:σ[i]? = some (some v))(r:∀ H2,jg H H2->R [v] H2):AT (qk (qy i) xh) σ H R:=λH' s Q q=>⟨_,hi,q _ H' (jg.refl _) (r H' s)⟩
theorem AT.block{σ:St}{H:Hp}{i j:Nat}{x:Addr}{z:Str}{ls:List x8}{ps:List jw}{bs:List (List jw)}{R:List V->Hp->Prop}{nl:List jw}(C:zu K mg "Tree" D.CN ["kind", "leaves", "parts", "blocks", "depth", "place", "end"])(T:qp D H x z ls ps bs)(hi:σ[i]? = some (some (.ref x)))(hj:bs[j]? = some nl)
  (r:∀ a us H2,jg H H2->az K H2 a us->us.length<=1000->ji D.CN H2 nl us->R [.ref a] H2):AT (qk (tOp (jgu K) (ja4 K (qy i) "blocks") (tC (.int (j:Int)))) xh) σ H R:=by
 intro H' s Q q;obtain ⟨dx,a1,a2,a3,ah,af,ag,d,h1,h2,h3,h4,sz,h5,h6,h7⟩:=(T.same s).ex;obtain ⟨a,ws,ev,ha,lw,nv⟩:=qr.get bs ag h7 j _ hj;exact ⟨_,hi,x,D.CN,dx,_,_,rfl,h1,C.cl,C.no _ (.tail _ (.tail _ (.tail _ (.head _)))),rfl,a3,ag,j,_,rfl,rfl,az.of h4,ja3 ev,q _ H' (jg.refl _) (r a ws H' s (az.of ha) lw nv)⟩
theorem AT.leaf{σ:St}{H:Hp}{i j:Nat}{x:Addr}{z:Str}{ls:List x8}{ps:List jw}{bs:List (List jw)}{y:x8}{R:List V->Hp->Prop}(C:zu K mg "Tree" D.CN ["kind", "leaves", "parts", "blocks", "depth", "place", "end"])(T:qp D H x z ls ps bs)(hi:σ[i]? = some (some (.ref x)))(hj:ls[j]? = some y)
  (r:∀ v H2,jg H H2->qo H2 y v->R [v] H2):AT (qk (tOp (jgu K) (ja4 K (qy i) "leaves") (tC (.int (j:Int)))) xh) σ H R:=λH' s Q q =>
 jni C (T.same s) hi hj λv hv=>q _ H' (jg.refl _) (r v H' s hv)
end
theorem jnt{c:TT}{t rest:TS}{Dn:jbk}{σ:St}{H:Hp}(h:c σ H λk H1=>if k=true then t { Dn with nx:=rest Dn } σ H1 else rest Dn σ H1):jci (jgf c t jd3) rest Dn σ H:=h
theorem jbc{t rest:TS}{Dn:jbk}{σ:St}{H:Hp}{te:TE}{z y:Str}(hv:∀ Q:VK,Q (.str z) H->te σ H Q)(yes:z=y->t { Dn with nx:=rest Dn } σ H)(no:¬ z=y->rest Dn σ H):jci (jgf (jc8 (tOp rEq te (tC (.str y)))) t jd3) rest Dn σ H :=
 hv _ ⟨rfl,_,rfl,qd (λk=>yes (wo k)) (λk=>no (jac k))⟩
theorem jt5{K:W.Frag}{t rest:TS}{Dn:jbk}{σ:St}{H:Hp}{te:TE}{ta:TA}{z:Str}{ys:List Str}(hv:∀ Q:VK,Q (.str z) H->te σ H Q)(ha:∀ Q:List V->Hp->Prop,Q (ys.map V.str) H->ta σ H Q)(hl:ys.length<=1000)
  (yes:∀ H1,jg H H1->z∈ys->t { Dn with nx:=rest Dn } σ H1) (no:∀ H1,jg H H1->¬ z∈ys->rest Dn σ H1):jci (jgf (jc8 (tOp (rIn K false) te (jrk ta))) t jd3) rest Dn σ H:=by
 refine hv _ (ha _ ⟨by rw [List.length_map];exact Nat.le_trans hl (by decide),λp np=>⟨p,_,rfl,.inr (be.of jd),rfl,?_,_,rfl,?_⟩⟩)
 ·rw [List.all_map];exact List.all_eq_true.mpr λ_ _=>rfl
 ·rw [if_neg Bool.false_ne_true,jap];exact qd (λk=>yes _ (jo np _) (ot_ k)) (λk=>no _ (jo np _) (λm=>k (dt_ m)))
theorem j7{t rest:TS}{Dn:jbk}{σ:St}{H:Hp}{i:Nat}{z y:Str}(hv:σ[i]? = some (some (.str z)))(h:¬ z=y)(k:rest Dn σ H):jci (jgf (jc8 (tOp rEq (qy i) (tC (.str y)))) t jd3) rest Dn σ H :=
 jbc (λQ q=>⟨_,hv,q⟩) (λe=>absurd e h) λ_=>k
theorem jbb{t rest:TS}{Dn:jbk}{σ:St}{H:Hp}{i:Nat}{z y:Str}(hv:σ[i]? = some (some (.str z)))(h:z=y)(k:t { Dn with nx:=rest Dn } σ H):jci (jgf (jc8 (tOp rEq (qy i) (tC (.str y)))) t jd3) rest Dn σ H :=
 jbc (λQ q=>⟨_,hv,q⟩) (λ_=>k) λn=>absurd h n
theorem yh{K:W.Frag}{t rest:TS}{Dn:jbk}{σ:St}{H:Hp}{i:Nat}{ta:TA}{z:Str}(hv:σ[i]? = some (some (.str z)))(ys:List Str)(h:¬ z∈ys)(k:∀ H1,jg H H1->rest Dn σ H1)(hl:ys.length<=1000:=by decide)(ha:∀ Q:List V->Hp->Prop,Q (ys.map V.str) H->ta σ H Q:=by exact λ_ q=>q) :
  jci (jgf (jc8 (tOp (rIn K false) (qy i) (jrk ta))) t jd3) rest Dn σ H:=jt5 (λQ q=>⟨_,hv,q⟩) ha hl (λ_ _ m=>absurd m h) λH1 s _=>k H1 s
theorem wq{K:W.Frag}{t rest:TS}{Dn:jbk}{σ:St}{H:Hp}{i:Nat}{ta:TA}{z:Str}(hv:σ[i]? = some (some (.str z)))(ys:List Str)(h:z∈ys)(k:∀ H1,jg H H1->t { Dn with nx:=rest Dn } σ H1)(hl:ys.length<=1000:=by decide)(ha:∀ Q:List V->Hp->Prop,Q (ys.map V.str) H->ta σ H Q:=by exact λ_ q=>q) :
  jci (jgf (jc8 (tOp (rIn K false) (qy i) (jrk ta))) t jd3) rest Dn σ H:=jt5 (λQ q=>⟨_,hv,q⟩) ha hl (λH1 s _=>k H1 s) λ_ _ m=>absurd h m
theorem jj0{σ:St}{H:Hp}{i:Nat}{z:Str}(h:σ[i]? = some (some (.str z)):=by rfl):∀ H',jg H H'->∀ Q:VK,Q (.str z) H'->(qy i) σ H' Q:=λ_ _ _ q=>⟨_,h,q⟩
end Prg
end
section
set_option autoImplicit false
namespace Cell
open Vanbka
def nw(n:Nat):Nat:=(Nat.toDigits 10 n).length + if n < 10 ^ 30 then 0 else 10 ^ 9
def word(x:Bytes):Bool:=match x with
 | []=>false
 | c::r=>letter c && (r.all wordByte && decide (r.length<=15))
def ne(x:Bytes):Nat:=if word x=true then 0 else 10 ^ 9
def nes:List Bytes->Nat
 | []=>0
 | x::l=>ne x + nes l
def nq(x:Bytes):Nat:=if x.all allowed=true then 0 else 10 ^ 9
def nqs:List Bytes->Nat
 | []=>0
 | x::l=>nq x + nqs l
def ow:Option Bytes->Nat
 | none=>0
 | some x=>x.length + ne x
def lw:Lex->Nat
 | .word x=>2 * x.length + ne x
 | .num n=>nw n
 | .quoted s=>2 * s.length + nq s
 | .sign _=>0
def tw(t:Tok):Nat:=200 + lw t.lex
def bf:List Tok->Nat
 | []=>0
 | t::r=>tw t + bf r
def bsw:List Bytes->Nat
 | []=>0
 | x::l=>100 + 2 * x.length + bsw l
mutual
def ew:Expr->Nat
 | .num n=>50 + nw n
 | .quoted s=>50 + 2 * s.length + nq s
 | .truth _=>50
 | .nothing=>50
 | .name x=>50 + x.length + ne x
 | .list l=>50 + esw l
 | .record l=>50 + fsw l
 | .minus e=>50 + ew e
 | .not e=>50 + ew e
 | .bin _ x y=>50 + ew x + ew y
 | .pick c x y=>50 + ew c + ew x + ew y
 | .call f l=>50 + ew f + esw l
 | .index l i=>50 + ew l + ew i
 | .field r x=>50 + ew r + x.length + ne x
 | .prim _ l=>50 + esw l
 | .fn own ps s=>50 + ow own + bsw ps + nes ps + ssw s
def esw:Exprs->Nat
 | .nil=>0
 | .cons e l=>20 + ew e + esw l
def fsw:Fields->Nat
 | .nil=>0
 | .cons x e l=>20 + x.length + ne x + ew e + fsw l
def sw1:Stmt->Nat
 | .leta x e=>50 + x.length + ne x + ew e
 | .seta x e=>50 + x.length + ne x + ew e
 | .way _ e=>50 + ew e
 | .iff c x=>50 + ew c + ssw x
 | .iffElse c x y=>50 + ew c + ssw x + ssw y
 | .while_ c x=>50 + ew c + ssw x
 | .for x e l=>50 + x.length + ne x + ew e + ssw l
 | .slider x v lo hi=>50 + x.length + ne x + (1 + nw v.natAbs) + (1 + nw lo.natAbs) + (1 + nw hi.natAbs)
 | .choice x v l=>50 + x.length + ne x + nw v + bsw l + nqs l
def ssw:Stmts->Nat
 | .nil=>0
 | .cons s l=>20 + sw1 s + ssw l
end
theorem jt{α β:Type}{x:Except Nat α}{f:α->Except Nat β}{y:β}(h:(x >>= f) = .ok y):∃ a,x = .ok a/\f a = .ok y:=by
 cases x with
 | error l=>cases h
 | ok a=>exact ⟨a,rfl,h⟩
theorem zb{p:Tok->Bool}{ts r:List Tok}(h:eat p ts = .ok r):200 + bf r<=bf ts:=by
 unfold eat at h;split at h
 ·cases h;rename_i hn;obtain ⟨t,r,rfl,_,e⟩:=jcc hn;rw [e,bf,tw];omega
 ·cases h
theorem zd{p:Tok->Bool}{ts:List Tok}(h:next p ts=true):200 + bf (ts.drop 1)<=bf ts:=by
 obtain ⟨t,r,rfl,_,e⟩:=jcc h;rw [e,bf,tw];omega
theorem j2g{k:Nat}{ts:List Tok}{o:Op}(h:opNext k ts=some o):200 + bf (ts.drop 1)<=bf ts:=by
 cases ts with
 | nil=>cases h
 | cons t r=>show 200 + bf r<=tw t + bf r;rw [tw];omega
theorem jbf{ts r:List Tok}{x:Bytes}(h:name ts = .ok (x,r)):200 + 2 * x.length + ne x + bf r<=bf ts:=by
 cases ts with
 | nil=>cases h
 | cons t r0 =>
  obtain ⟨l,p,k⟩:=t;cases l with
  | word w =>
   have h:(match (if reserved.contains w then none else some w) with
    | some x=>Except.ok (x,r0)
    | none=>halt_ (⟨.word w,p,k⟩::r0))=Except.ok (x,r):=h
   cases hr:reserved.contains w with
   | true=>rw [hr] at h;cases h
   | false =>
    rw [hr] at h;cases h;rw [bf,tw,lw];omega
  | num n=>cases h
  | quoted s=>cases h
  | sign s=>cases h
theorem jjk{ts r:List Tok}{n:Nat}(h:number ts = .ok (n,r)):200 + nw n + bf r<=bf ts:=by
 unfold number at h;split at h
 ·cases h;rw [bf,tw,lw];omega
 ·cases h
theorem jn_{ts r:List Tok}{s:Bytes}(h:quoted ts = .ok (s,r)):200 + 2 * s.length + nq s + bf r<=bf ts:=by
 unfold quoted at h;split at h
 ·cases h;rw [bf,tw,lw];omega
 ·cases h
theorem jk9{ts r:List Tok}{z:Int}(h:whole ts = .ok (z,r)):200 + nw z.natAbs + bf r<=bf ts:=by
 unfold whole at h;split at h
 ·rename_i hn;obtain ⟨⟨n,r1⟩,h1,h⟩:=jt h;have:=jjk h1
  have:=zd hn;cases h;rw [Int.natAbs_neg,Int.natAbs_natCast];omega
 ·obtain ⟨⟨n,r1⟩,h1,h⟩:=jt h;have:=jjk h1
  cases h;rw [Int.natAbs_natCast];omega
theorem jiz:∀ (n:Nat) {ts r:List Tok} {l:List Bytes},namesMore n ts = .ok (l,r)->bsw l + nes l + bf r<=bf ts
 | 0,ts,r,l,h=>by cases h;rw [bsw,nes];omega
 | n + 1,ts,r,l,h=>by
  rw [namesMore] at h;split at h
  ·rename_i hn;obtain ⟨⟨x,r1⟩,h1,h⟩:=jt h;obtain ⟨⟨l2,r2⟩,h2,h⟩:=jt h;have:=zd hn
   have:=jbf h1;have:=jiz n h2
   cases h;rw [bsw,nes];omega
  ·cases h;rw [bsw,nes];omega
theorem jhw:∀ (n:Nat) {ts r:List Tok} {l:List Bytes},quotedMore n ts = .ok (l,r)->bsw l + nqs l + bf r<=bf ts
 | 0,ts,r,l,h=>by cases h;rw [bsw,nqs];omega
 | n + 1,ts,r,l,h=>by
  rw [quotedMore] at h;split at h
  ·rename_i hn;obtain ⟨⟨x,r1⟩,h1,h⟩:=jt h;obtain ⟨⟨l2,r2⟩,h2,h⟩:=jt h;have:=zd hn
   have:=jn_ h1;have:=jhw n h2
   cases h;rw [bsw,nqs];omega
  ·cases h;rw [bsw,nqs];omega
theorem jw9{ts r:List Tok}{l:List Bytes}(h:params ts = .ok (l,r)):100 + bsw l + nes l + bf r<=bf ts:=by
 unfold params at h;split at h
 ·rename_i hn;have:=zd hn
  cases h;rw [bsw,nes];omega
 ·obtain ⟨⟨x,r1⟩,h1,h⟩:=jt h;obtain ⟨⟨l2,r2⟩,h2,h⟩:=jt h;obtain ⟨r3,h3,h⟩:=jt h;have:=jbf h1
  have:=jiz _ h2;have:=zb h3
  cases h;rw [bsw,nes];omega
structure jy9(n:Nat):Prop where
 expr:∀ {ts r e},expr n ts = .ok (e,r)->ew e + 100 + bf r<=bf ts
 line:∀ {k ts r e},line n k ts = .ok (e,r)->ew e + 100 + bf r<=bf ts
 chain:∀ {k x ts r e},chain n k x ts = .ok (e,r)->ew e + bf r<=ew x + bf ts
 reach:∀ {x ts r e},reach n x ts = .ok (e,r)->ew e + bf r<=ew x + bf ts
 listed:∀ {s ts r l},listed n s ts = .ok (l,r)->esw l + 100 + bf r<=bf ts
 more:∀ {ts r l},more n ts = .ok (l,r)->esw l + bf r<=bf ts
 fields:∀ {ts r l},fields n ts = .ok (l,r)->fsw l + 100 + bf r<=bf ts
 simple:∀ {ts r e},simple n ts = .ok (e,r)->ew e + 100 + bf r<=bf ts
 parts:∀ {k ts r l},parts n k ts = .ok (l,r)->esw l + bf r<=bf ts
 inBrackets:∀ {ts r e},inBrackets n ts = .ok (e,r)->ew e + bf r<=50 + bf ts
 function:∀ {ts r e},function n ts = .ok (e,r)->ew e + bf r<=bf ts
 block:∀ {ts r l},block n ts = .ok (l,r)->ssw l + 100 + bf r<=bf ts
 statements:∀ {ts r l},statements n ts = .ok (l,r)->ssw l + bf r<=bf ts
 statement:∀ {ts r s},statement n ts = .ok (s,r)->sw1 s + 100 + bf r<=bf ts
section
variable{n:Nat}(W:jy9 n)
include W
theorem jss{ts r:List Tok}{e:Expr}(h:expr (n + 1) ts = .ok (e,r)):ew e + 100 + bf r<=bf ts:=by
 rw [expr] at h;obtain ⟨⟨c,r1⟩,h1,h⟩:=jt h;have:=W.line h1
 dsimp only at h;split at h
 ·rename_i hn;have:=zd hn
  obtain ⟨⟨x,r2⟩,h2,h⟩:=jt h;obtain ⟨r3,h3,h⟩:=jt h;obtain ⟨⟨y,r4⟩,h4,h⟩:=jt h;have:=W.line h2
  have:=zb h3;have:=W.line h4
  cases h;rw [ew];(try dsimp only at *);omega
 ·cases h;(try dsimp only at *);omega
theorem jsr{k:Nat}{ts r:List Tok}{e:Expr}(h:line (n + 1) k ts = .ok (e,r)):ew e + 100 + bf r<=bf ts:=by
 rw [line] at h;split at h
 ·split at h
  ·rename_i hn;have:=zd hn
   obtain ⟨⟨x,r1⟩,h1,h⟩:=jt h;have:=W.line h1
   cases h;rw [ew];(try dsimp only at *);omega
  ·exact W.line h
 split at h
 ·obtain ⟨⟨x,r1⟩,h1,h⟩:=jt h;have:=W.line h1
  dsimp only at h;split at h
  ·rename_i o ho;have:=j2g ho
   obtain ⟨⟨y,r2⟩,h2,h⟩:=jt h;have:=W.line h2
   cases h;rw [ew];(try dsimp only at *);omega
  ·cases h;(try dsimp only at *);omega
 split at h
 ·split at h
  ·rename_i hn;have:=zd hn
   obtain ⟨⟨x,r1⟩,h1,h⟩:=jt h;have:=W.line h1
   cases h;rw [ew];(try dsimp only at *);omega
  ·exact W.line h
 split at h
 ·obtain ⟨⟨x,r1⟩,h1,h⟩:=jt h;have:=W.simple h1
  have:=W.reach h
  (try dsimp only at *);omega
 ·obtain ⟨⟨x,r1⟩,h1,h⟩:=jt h;have:=W.line h1
  have:=W.chain h
  (try dsimp only at *);omega
theorem jpv{k:Nat}{x:Expr}{ts r:List Tok}{e:Expr}(h:chain (n + 1) k x ts = .ok (e,r)):ew e + bf r<=ew x + bf ts:=by
 rw [chain] at h;split at h
 ·rename_i o ho;have:=j2g ho
  obtain ⟨⟨y,r1⟩,h1,h⟩:=jt h;have:=W.line h1
  have:=W.chain h;rw [ew] at this;(try dsimp only at *);omega
 ·cases h;(try dsimp only at *);omega
theorem jpt{x:Expr}{ts r:List Tok}{e:Expr}(h:reach (n + 1) x ts = .ok (e,r)):ew e + bf r<=ew x + bf ts:=by
 rw [reach] at h;split at h
 ·rename_i hn;have:=zd hn
  obtain ⟨⟨l,r1⟩,h1,h⟩:=jt h;have:=W.listed h1
  have:=W.reach h;rw [ew] at this;(try dsimp only at *);omega
 split at h
 ·rename_i hn;have:=zd hn
  obtain ⟨⟨e1,r1⟩,h1,h⟩:=jt h;obtain ⟨r2,h2,h⟩:=jt h;have:=W.expr h1
  have:=zb h2;have:=W.reach h
  rw [ew] at this;(try dsimp only at *);omega
 split at h
 ·rename_i hn;have:=zd hn
  obtain ⟨⟨y,r1⟩,h1,h⟩:=jt h;have:=jbf h1
  have:=W.reach h;rw [ew] at this;(try dsimp only at *);omega
 ·cases h;(try dsimp only at *);omega
theorem joq{s:String}{ts r:List Tok}{l:Exprs}(h:listed (n + 1) s ts = .ok (l,r)):esw l + 100 + bf r<=bf ts:=by
 rw [listed] at h;split at h
 ·rename_i hn;have:=zd hn
  cases h;rw [esw];(try dsimp only at *);omega
 ·obtain ⟨⟨e,r1⟩,h1,h⟩:=jt h;obtain ⟨⟨l2,r2⟩,h2,h⟩:=jt h;obtain ⟨r3,h3,h⟩:=jt h;have:=W.expr h1
  have:=W.more h2;have:=zb h3
  cases h;rw [esw];(try dsimp only at *);omega
theorem jsq{ts r:List Tok}{l:Exprs}(h:more (n + 1) ts = .ok (l,r)):esw l + bf r<=bf ts:=by
 rw [more] at h;split at h
 ·rename_i hn;have:=zd hn
  obtain ⟨⟨e,r1⟩,h1,h⟩:=jt h;obtain ⟨⟨l2,r2⟩,h2,h⟩:=jt h;have:=W.expr h1
  have:=W.more h2;cases h;rw [esw];(try dsimp only at *);omega
 ·cases h;rw [esw];(try dsimp only at *);omega
theorem jor{ts r:List Tok}{l:Fields}(h:fields (n + 1) ts = .ok (l,r)):fsw l + 100 + bf r<=bf ts:=by
 rw [fields] at h;obtain ⟨⟨x,r1⟩,h1,h⟩:=jt h;obtain ⟨r2,h2,h⟩:=jt h;obtain ⟨⟨e,r3⟩,h3,h⟩:=jt h;have:=jbf h1
 have:=zb h2;have:=W.expr h3
 dsimp only at h;split at h
 ·rename_i hn;have:=zd hn
  obtain ⟨⟨l2,r4⟩,h4,h⟩:=jt h;have:=W.fields h4
  cases h;rw [fsw];(try dsimp only at *);omega
 ·cases h;rw [fsw,fsw];(try dsimp only at *);omega
theorem jpu{k:Nat}{ts r:List Tok}{l:Exprs}(h:parts (n + 1) k ts = .ok (l,r)):esw l + bf r<=bf ts:=by
 rw [parts] at h;obtain ⟨⟨e,r1⟩,h1,h⟩:=jt h;have:=W.expr h1
 dsimp only at h;split at h
 ·obtain ⟨r2,h2,h⟩:=jt h;have:=zb h2
  cases h;rw [esw,esw];(try dsimp only at *);omega
 ·obtain ⟨r2,h2,h⟩:=jt h;obtain ⟨⟨l2,r3⟩,h3,h⟩:=jt h;have:=zb h2
  have:=W.parts h3;cases h;rw [esw];(try dsimp only at *);omega
theorem jjp{ts r:List Tok}{e:Expr}(h:inBrackets (n + 1) ts = .ok (e,r)):ew e + bf r<=50 + bf ts:=by
 rw [inBrackets] at h;split at h
 ·rename_i hn;have:=zd hn
  obtain ⟨r1,h1,h⟩:=jt h;have:=zb h1
  cases h;rw [ew,fsw];(try dsimp only at *);omega
 split at h
 ·obtain ⟨⟨l,r1⟩,h1,h⟩:=jt h;obtain ⟨r2,h2,h⟩:=jt h;have:=W.fields h1
  have:=zb h2;cases h;rw [ew];(try dsimp only at *);omega
 ·obtain ⟨⟨e1,r1⟩,h1,h⟩:=jt h;obtain ⟨r2,h2,h⟩:=jt h;have:=W.expr h1
  have:=zb h2;cases h
  (try dsimp only at *);omega
theorem jpw{ts r:List Tok}{l:Stmts}(h:block (n + 1) ts = .ok (l,r)):ssw l + 100 + bf r<=bf ts:=by
 rw [block] at h;obtain ⟨r1,h1,h⟩:=jt h;obtain ⟨⟨s,r2⟩,h2,h⟩:=jt h;obtain ⟨r3,h3,h⟩:=jt h;have:=zb h1
 have:=W.statements h2;have:=zb h3
 cases h
 (try dsimp only at *);omega
theorem jjo{ts r:List Tok}{l:Stmts}(h:statements (n + 1) ts = .ok (l,r)):ssw l + bf r<=bf ts:=by
 rw [statements] at h;split at h
 ·cases h;rw [ssw];(try dsimp only at *);omega
 ·obtain ⟨⟨s,r1⟩,h1,h⟩:=jt h;obtain ⟨⟨l2,r2⟩,h2,h⟩:=jt h;have:=W.statement h1
  have:=W.statements h2;cases h;rw [ssw];(try dsimp only at *);omega
theorem jop{ts r:List Tok}{e:Expr}(h:simple (n + 1) ts = .ok (e,r)):ew e + 100 + bf r<=bf ts:=by
 rw [simple.eq_def] at h;dsimp only at h;split at h
 ·cases h;rw [ew,bf,tw,lw];omega
 ·cases h;rw [ew,bf,tw,lw];omega
 ·rename_i t r0 _ _;have ht:bf (t::r0)=tw t + bf r0:=rfl
  have ht2:200<=tw t:=by rw [tw];omega
  split at h
  ·obtain ⟨⟨l,r1⟩,h1,h⟩:=jt h;have:=W.listed h1
   cases h;rw [ew];(try dsimp only at *);omega
  split at h
  ·have:=W.inBrackets h;omega
  split at h
  ·have:=W.function h;omega
  split at h
  ·cases h;rw [ew];omega
  split at h
  ·cases h;rw [ew];omega
  split at h
  ·cases h;rw [ew];omega
  split at h
  ·rename_i x hx;cases h;have hn:name (t::r) = .ok (x,r):=by unfold name;rw [hx];rfl
   have:=jbf hn;rw [ew];omega
  ·split at h
   ·obtain ⟨r1,h1,h⟩:=jt h;obtain ⟨⟨l,r2⟩,h2,h⟩:=jt h;have:=zb h1
    have:=W.parts h2;cases h;rw [ew];(try dsimp only at *);omega
   ·cases h
 ·cases h
theorem jlp{ts r:List Tok}{e:Expr}(h:function (n + 1) ts = .ok (e,r)):ew e + bf r<=bf ts:=by
 rw [function] at h;dsimp only at h;obtain ⟨r1,h1,h⟩:=jt h;obtain ⟨⟨l,r2⟩,h2,h⟩:=jt h;obtain ⟨⟨s,r3⟩,h3,h⟩:=jt h;have a1:=zb h1
 have a2:=jw9 h2;have a3:=W.block h3
 cases h;cases hx:nameNext ts with
 | none =>
  rw [hx] at a1;have a1:200 + bf r1<=bf ts:=a1
  rw [ew];show 50 + 0 + bsw l + nes l + ssw s + bf r3<=bf ts
  (try dsimp only at *);omega
 | some x =>
  rw [hx] at a1;have a1:200 + bf r1<=bf (ts.drop 1):=a1
  have hn:name ts = .ok (x,ts.drop 1):=by unfold name;rw [hx]
  have:=jbf hn;rw [ew];show 50 + (x.length + ne x) + bsw l + nes l + ssw s + bf r3<=bf ts
  (try dsimp only at *);omega
theorem jkn{ts r:List Tok}{s:Stmt}(h:statement (n + 1) ts = .ok (s,r)):sw1 s + 100 + bf r<=bf ts:=by
 rw [statement] at h;dsimp only at h;split at h
 ·rename_i hn;have:=zd hn
  obtain ⟨⟨x,r1⟩,h1,h⟩:=jt h;obtain ⟨r2,h2,h⟩:=jt h;obtain ⟨⟨e,r3⟩,h3,h⟩:=jt h;obtain ⟨r4,h4,h⟩:=jt h;have:=jbf h1
  have:=zb h2;have:=W.expr h3
  have:=zb h4;cases h;rw [sw1];(try dsimp only at *);omega
 split at h
 ·rename_i hn;have:=zd hn
  obtain ⟨⟨x,r1⟩,h1,h⟩:=jt h;obtain ⟨r2,h2,h⟩:=jt h;obtain ⟨⟨e,r3⟩,h3,h⟩:=jt h;obtain ⟨r4,h4,h⟩:=jt h;have:=jbf h1
  have:=zb h2;have:=W.expr h3
  have:=zb h4;cases h;rw [sw1];(try dsimp only at *);omega
 split at h
 ·rename_i hn;have:=zd hn
  obtain ⟨⟨c,r1⟩,h1,h⟩:=jt h;obtain ⟨⟨x,r2⟩,h2,h⟩:=jt h;have:=W.expr h1
  have:=W.block h2;dsimp only at h;split at h
  ·rename_i hn2;have:=zd hn2
   obtain ⟨⟨y,r3⟩,h3,h⟩:=jt h;have:=W.block h3
   cases h;rw [sw1];(try dsimp only at *);omega
  ·cases h;rw [sw1];(try dsimp only at *);omega
 split at h
 ·rename_i hn;have:=zd hn
  obtain ⟨⟨c,r1⟩,h1,h⟩:=jt h;obtain ⟨⟨x,r2⟩,h2,h⟩:=jt h;have:=W.expr h1
  have:=W.block h2;cases h;rw [sw1];(try dsimp only at *);omega
 split at h
 ·rename_i hn;have:=zd hn
  obtain ⟨⟨x,r1⟩,h1,h⟩:=jt h;obtain ⟨r2,h2,h⟩:=jt h;obtain ⟨⟨e,r3⟩,h3,h⟩:=jt h;obtain ⟨⟨l,r4⟩,h4,h⟩:=jt h;have:=jbf h1
  have:=zb h2;have:=W.expr h3
  have:=W.block h4;cases h;rw [sw1];(try dsimp only at *);omega
 split at h
 ·rename_i hn;have:=zd hn
  obtain ⟨⟨x,r1⟩,h1,h⟩:=jt h;obtain ⟨r2,h2,h⟩:=jt h;obtain ⟨⟨v,r3⟩,h3,h⟩:=jt h;obtain ⟨r4,h4,h⟩:=jt h;obtain ⟨⟨lo,r5⟩,h5,h⟩:=jt h;obtain ⟨r6,h6,h⟩:=jt h;obtain ⟨⟨hi,r7⟩,h7,h⟩:=jt h;obtain ⟨r8,h8,h⟩:=jt h;have:=jbf h1
  have:=zb h2;have:=jk9 h3
  have:=zb h4;have:=jk9 h5
  have:=zb h6;have:=jk9 h7
  have:=zb h8;cases h;rw [sw1];(try dsimp only at *);omega
 split at h
 ·rename_i hn;have:=zd hn
  obtain ⟨⟨x,r1⟩,h1,h⟩:=jt h;obtain ⟨r2,h2,h⟩:=jt h;obtain ⟨⟨v,r3⟩,h3,h⟩:=jt h;obtain ⟨r4,h4,h⟩:=jt h;obtain ⟨⟨o,r5⟩,h5,h⟩:=jt h;obtain ⟨⟨l,r6⟩,h6,h⟩:=jt h;obtain ⟨r7,h7,h⟩:=jt h;have:=jbf h1
  have:=zb h2;have:=jjk h3
  have:=zb h4;have:=jn_ h5
  have:=jhw _ h6;have:=zb h7
  cases h;rw [sw1,bsw,nqs];(try dsimp only at *);omega
 ·split at h
  ·rename_i w hw;obtain ⟨⟨e,r1⟩,h1,h⟩:=jt h;obtain ⟨r2,h2,h⟩:=jt h;have:=W.expr h1
   have:=zb h2;have:bf (ts.drop 1)<=bf ts:=by
    cases ts with
    | nil=>exact Nat.le_refl _
    | cons t r=>show bf r<=tw t + bf r;omega
   cases h;rw [sw1];(try dsimp only at *);omega
  ·cases h
end
theorem jy5:∀ n,jy9 n
 | 0=>by
  constructor <;> intros <;> rename_i h <;> simp only [expr,line,chain,reach,listed,more,fields,simple,parts,inBrackets,function,block,statements,statement] at h <;> cases h
 | n + 1 =>
  have W:=jy5 n
  ⟨jss W,jsr W,jpv W,jpt W,joq W,jsq W,jor W,jop W,jpu W,jjp W,jlp W,jpw W,jjo W,jkn W⟩
theorem juo{ts:List Tok}{s:Stmts}(h:program ts = .ok s):ssw s<=bf ts:=by
 unfold program at h;obtain ⟨⟨s1,r⟩,h1,h⟩:=jt h;have:=(jy5 _).statements h1
 dsimp only at h;split at h
 ·cases h;omega
 ·cases h
theorem jom{n:Nat}(h:nw n<=1000000):n < 10 ^ 30:=by
 unfold nw at h;split at h
 ·assumption
 ·omega
end Cell
end
section
set_option autoImplicit false
namespace Cell
open Vanbka
def tot(x:Count):Nat:=x.exprs + x.stmts
theorem jie(x y:Count):tot (x + y)=tot x + tot y:=Nat.add_add_add_comm _ _ _ _
section
variable{x y z:Count}{l m n k:Nat}
theorem n1{u:Count}(hu:tot u<=1)(hm:1<=m)(h:tot x<=n):tot (u + x)<=m + n:=by
 rw [jie];exact Nat.add_le_add (Nat.le_trans hu hm) h
theorem n2{u:Count}(hu:tot u<=1)(hm:1<=m)(h:tot x<=n)(h2:tot y<=k):tot (u + x + y)<=m + n + k:=by
 rw [jie];exact Nat.add_le_add (n1 hu hm h) h2
theorem n3{u:Count}(hu:tot u<=1)(hm:1<=m)(h:tot x<=n)(h2:tot y<=k)(h3:tot z<=l):tot (u + x + y + z)<=m + n + k + l:=by
 rw [jie];exact Nat.add_le_add (n2 hu hm h h2) h3
theorem nc(h:tot x<=n)(h2:tot y<=k):tot (x + y)<=m + n + k:=by
 rw [jie];exact Nat.add_le_add (Nat.le_trans h (Nat.le_add_left _ _)) h2
theorem up{a b:Nat}(h:a<=b):a<=b + n:=Nat.le_trans h (Nat.le_add_right _ _)
theorem f1:1<=50:=by decide
end
mutual
theorem jaj:∀ e:Expr,tot e.counts<=ew e
 | .num n=>up f1
 | .quoted s=>up (up f1)
 | .truth v=>f1
 | .nothing=>f1
 | .name x=>up (up f1)
 | .list l=>n1 (Nat.le_refl 1) f1 (jm_ l)
 | .record l=>n1 (Nat.le_refl 1) f1 (jy8 l)
 | .minus e=>n1 (Nat.le_refl 1) f1 (jaj e)
 | .not e=>n1 (Nat.le_refl 1) f1 (jaj e)
 | .bin o x y=>n2 (Nat.le_refl 1) f1 (jaj x) (jaj y)
 | .pick c x y=>n3 (Nat.le_refl 1) f1 (jaj c) (jaj x) (jaj y)
 | .call f l=>n2 (Nat.le_refl 1) f1 (jaj f) (jm_ l)
 | .index l i=>n2 (Nat.le_refl 1) f1 (jaj l) (jaj i)
 | .field r x=>up (up (n1 (Nat.le_refl 1) f1 (jaj r)))
 | .prim p l=>n1 (Nat.le_refl 1) f1 (jm_ l)
 | .fn own ps s=>n1 (Nat.le_refl 1) (up (up (up f1))) (jfb s)
theorem jm_:∀ l:Exprs,tot l.counts<=esw l
 | .nil=>Nat.le_refl 0
 | .cons e l=>nc (jaj e) (jm_ l)
theorem jy8:∀ l:Fields,tot l.counts<=fsw l
 | .nil=>Nat.le_refl 0
 | .cons x e l=>nc (jaj e) (jy8 l)
theorem j43:∀ s:Stmt,tot s.counts<=sw1 s
 | .leta x e=>n1 (Nat.le_refl 1) (up (up f1)) (jaj e)
 | .seta x e=>n1 (Nat.le_refl 1) (up (up f1)) (jaj e)
 | .way w e=>n1 (Nat.le_refl 1) f1 (jaj e)
 | .iff c x=>n2 (Nat.le_refl 1) f1 (jaj c) (jfb x)
 | .iffElse c x y=>n3 (Nat.le_refl 1) f1 (jaj c) (jfb x) (jfb y)
 | .while_ c x=>n2 (Nat.le_refl 1) f1 (jaj c) (jfb x)
 | .for x e l=>n2 (Nat.le_refl 1) (up (up f1)) (jaj e) (jfb l)
 | .slider x v lo hi=>up (up (up (up (up f1))))
 | .choice x v l=>up (up (up (up (up f1))))
theorem jfb:∀ l:Stmts,tot l.counts<=ssw l
 | .nil=>Nat.le_refl 0
 | .cons s l=>nc (j43 s) (jfb l)
end
end Cell
end
section
set_option maxRecDepth 100000
set_option maxHeartbeats 4000000
namespace Prg
open PySem L2
open Vanbka (Bytes Exprs Fields Stmts Count)
mutual
def jw.w(u v:Nat):jw->Nat
 | .mk _ _ ps bs=>wL u v u ps + wB u v bs
def wL(u v:Nat):Nat->List jw->Nat
 | _,[]=>0
 | k,x::l=>k + x.w u v + wL u v k l
def wB(u v:Nat):List (List jw)->Nat
 | []=>0
 | x::l=>wL u v v x + wB u v l
end
theorem jdj(u v k:Nat):∀ l m:List jw,wL u v k (l ++ m)=wL u v k l + wL u v k m
 | [],m=>by rw [List.nil_append,wL,Nat.zero_add]
 | x::l,m=>by rw [List.cons_append,wL,wL,jdj u v k l m];exact (Nat.add_assoc _ _ _).symm
theorem jla(u v:Nat):∀ l:List (List jw),wB u v l=wL u v v l.flatten
 | []=>by rw [wB,List.flatten_nil,wL]
 | x::l=>by rw [wB,List.flatten_cons,jdj,jla u v l]
theorem jfu(u v:Nat):∀ l:List jw,wL u v 1 l=l.length + wL u v 0 l
 | []=>by rw [wL,wL];rfl
 | x::l=>by rw [wL,wL,jfu u v l,List.length_cons];omega
abbrev eC:Count:={ stmts:=0,exprs:=1 }
abbrev sC:Count:={ stmts:=1,exprs:=0 }
structure Sel(u v:Nat)(g:Count->Nat):Prop where
 add:∀ x y,g (x + y)=g x + g y
 e:g eC=u
 s:g sC=v
 z:g { stmts:=0,exprs:=0 }=0
section
variable{u v:Nat}{g:Count->Nat}{p q r:Nat}{X Y Z:Count}
theorem c1{t:Nat}{T:Count}(G:Sel u v g)(ht:g T=t)(h:p=g X):t + p=g (T + X):=by rw [G.add,ht,h]
theorem c2{t:Nat}{T:Count}(G:Sel u v g)(ht:g T=t)(h:p=g X)(h2:q=g Y):t + (p + q)=g (T + X + Y):=by rw [G.add,<- c1 G ht h,h2,Nat.add_assoc]
theorem c3{t:Nat}{T:Count}(G:Sel u v g)(ht:g T=t)(h:p=g X)(h2:q=g Y)(h3:r=g Z):t + (p + (q + r))=g (T + X + Y + Z):=by rw [G.add,<- c2 G ht h h2,h3,Nat.add_assoc,Nat.add_assoc]
theorem e2(G:Sel u v g)(h:p=g X)(h2:q=g Y):u + (p + q + 0)=g (eC + X + Y):=by show u + (p + q)=_;exact c2 G G.e h h2
theorem e3(G:Sel u v g)(h:p=g X)(h2:q=g Y)(h3:r=g Z):u + (p + (q + r) + 0)=g (eC + X + Y + Z):=by show u + (p + (q + r))=_;exact c3 G G.e h h2 h3
theorem cc(G:Sel u v g)(h:p=g X)(h2:q=g Y):p + q=g (X + Y):=by rw [G.add,h,h2]
theorem cz(G:Sel u v g)(h:p=g X):u + (0 + p)=g (eC + X):=by rw [Nat.zero_add];exact c1 G G.e h
end
section
variable{u v:Nat}{g:Count->Nat}(G:Sel u v g)
include G
mutual
theorem w_E:∀ e:Vanbka.Expr,u + (jx e).w u v=g e.counts
 | .num n=>G.e.symm
 | .quoted s=>G.e.symm
 | .truth t=>G.e.symm
 | .nothing=>G.e.symm
 | .name x=>G.e.symm
 | .list l=>c1 G G.e (jrg l)
 | .record l=>c1 G G.e (j09 l)
 | .minus e=>c1 G G.e (w_E e)
 | .not e=>c1 G G.e (w_E e)
 | .bin o x y=>e2 G (w_E x) (w_E y)
 | .pick d x y=>e3 G (w_E d) (w_E x) (w_E y)
 | .call f l=>e2 G (w_E f) (jrg l)
 | .index l i=>e2 G (w_E l) (w_E i)
 | .field r x=>c1 G G.e (w_E r)
 | .prim p l=>c1 G G.e (jrg l)
 | .fn own ps s=>cz G (jgc s)
theorem jrg:∀ l:Exprs,wL u v u (y6 l)=g l.counts
 | .nil=>G.z.symm
 | .cons e l=>cc G (w_E e) (jrg l)
theorem j09:∀ l:Fields,wL u v u (vo l)=g l.counts
 | .nil=>G.z.symm
 | .cons x e l=>cc G (w_E e) (j09 l)
theorem w_S:∀ s:Vanbka.Stmt,v + (yb s).w u v=g s.counts
 | .leta x e=>c1 G G.s (w_E e)
 | .seta x e=>c1 G G.s (w_E e)
 | .way w e=>c1 G G.s (w_E e)
 | .iff d x=>c2 G G.s (w_E d) (jgc x)
 | .iffElse d x y=>c3 G G.s (w_E d) (jgc x) (jgc y)
 | .while_ d x=>c2 G G.s (w_E d) (jgc x)
 | .for x e l=>c2 G G.s (w_E e) (jgc l)
 | .slider x t lo hi=>G.s.symm
 | .choice x t l=>G.s.symm
theorem jgc:∀ l:Stmts,wL u v v (xk l)=g l.counts
 | .nil=>G.z.symm
 | .cons s l=>cc G (w_S s) (jgc l)
end
end
theorem jq9(s:Stmts):wL 0 1 1 (xk s)=s.counts.stmts:=jgc (g:=Count.stmts) ⟨λ_ _=>rfl,rfl,rfl,rfl⟩ s
theorem jq_(s:Stmts):wL 1 0 0 (xk s)=s.counts.exprs:=jgc (g:=Count.exprs) ⟨λ_ _=>rfl,rfl,rfl,rfl⟩ s
theorem j00(s:Stmts):wL 0 1 1 (xk s) + wL 1 0 0 (xk s)<=Cell.ssw s:=by
 rw [jq9,jq_,Nat.add_comm];exact Cell.jfb s
theorem jh1{fd:FuncData}{p:Str}{us:List Value}(h:us.length=1)(k:∀ a,bindArgs fd ⟨[a],[]⟩=pure ([p].zip [a])):bindArgs fd ⟨us,[]⟩=pure ([p].zip us):=by
 match us,h with
 | [a],_=>exact k a
theorem j2t{fd:FuncData}{p q:Str}{us:List Value}(h:us.length=2)(k:∀ a b,bindArgs fd ⟨[a,b],[]⟩=pure ([p,q].zip [a,b])):bindArgs fd ⟨us,[]⟩=pure ([p,q].zip us):=by
 match us,h with
 | [a,b],_=>exact k a b
theorem ji.app{CN:Addr}{H:Hp}{m:List jw}{ws:List V}(h2:ji CN H m ws):∀ (l:List jw) (vs:List V),ji CN H l vs->ji CN H (l ++ m) (vs ++ ws)
 | [],vs,h=>by
  have e:vs=[]:=h;subst e;exact h2
 | x::l,vs,h=>by
  obtain ⟨v,r,rfl,h1,h3⟩:=h;exact ⟨v,r ++ ws,rfl,h1,ji.app h2 l r h3⟩
theorem ji.last{CN:Addr}{H:Hp}:∀ (l:List jw) (vs:List V),ji CN H l vs->0 < vs.length->∃ (l':List jw) (x:jw) (v:V),l=l' ++ [x]/\vs[vs.length - 1]? = some v/\ji CN H l' vs.dropLast/\jz CN H x v
 | [],vs,h,hp=>by
  have e:vs=[]:=h;subst e;cases hp
 | [x],vs,h,hp=>by
  obtain ⟨v,r,rfl,h1,h3⟩:=h;have e:r=[]:=h3
  subst e;exact ⟨[],x,v,rfl,rfl,rfl,h1⟩
 | x::y::l,vs,h,hp=>by
  obtain ⟨v,r,rfl,h1,h3⟩:=h;have ln:=ji.len _ _ h3
  rw [List.length_cons] at ln;obtain ⟨l',z,u,e,hu,hn,hz⟩:=ji.last (y::l) r h3 (by omega);refine ⟨x::l',z,u,by rw [e];rfl,?_,?_,hz⟩
  ·have:(v::r).length - 1=r.length - 1 + 1:=by rw [List.length_cons];omega
   rw [this,List.getElem?_cons_succ];exact hu
  ·have:(v::r).dropLast=v::r.dropLast:=by
    cases r with
    | nil=>rw [List.length_nil] at ln;omega
    | cons _ _=>rfl
   rw [this];exact ⟨v,r.dropLast,rfl,h1,hn⟩
theorem jvq(l:List (List jw))(i:Nat):(l.take i).flatten.length<=l.flatten.length:=by
 have:l.flatten=(l.take i).flatten ++ (l.drop i).flatten:=by rw [<- List.flatten_append,List.take_append_drop]
 rw [this,List.length_append];omega
abbrev jb3:PySem.Stmt:=top 89
abbrev jfj:PySem.Stmt:=top 88
section
variable{P:Program}{w:World}{K:W.Frag}{mg:Str->Option Value}{base:Heap}{D:Ad}
def jwo(D:Ad):Sp:=λvs H Q _=>∃ (lt:Addr) (all:qb),vs=[.ref lt]/\jd0 D.CT H lt all/\bc all/\all.length<=10000000/\∀ H',jg H H'->Q (.int (((all.filter λk=>Vanbka.opening k.lex).length:Nat):Int)) H'
theorem j1u:jv ["tokens", "token"] ["tokens"] (jj jb3):=fs_
theorem j4b:ja8 ["tokens", "token"] (jj jb3) { kind:=.function,names:=[(".0",.local),("token",.local),("OPENING",.globalImplicit)],isGenerator:=false,isCoroutine:=false } [("token",1)]:=⟨rfl,by decide +kernel,by decide +kernel,by decide +kernel,by decide +kernel⟩
theorem j3w{f tI:Addr}{fd aw:FuncData}(F:Fun K "count_opening" "count_opening" jb3 f fd)(U:zz K mg D.CT tI aw)(WO:je3 K mg "OPENING" (jin.map V.str))(ml:mg "len"=none):xb P w K mg base (CXF P w) 1 f fd ["tokens"] (jwo D):=by
 refine F.okF (k:=0) j1u (λvs H Q E h=>?_) (λac A outer s H vs Q E hr h=>?_)
 ·obtain ⟨lt,all,rfl,_⟩:=h;rfl
 obtain ⟨lt,all,rfl,⟨xs,hx,pr⟩,wf,sz,q⟩:=h;have nd:=j1u.nd
 obtain ⟨oa,mO,sO⟩:=WO;refine ⟨_,(je (jp (ye xu rfl ml PySem.boot_len (ja (jd_ (own:=[("token",1)]) (tt:=jc8 (tOp (rIn K false) (ja4 K (qy 1) "kind") (tC (.ref oa)))) (te:=qy 1) rfl nd (vz (pv 0)) j4b (λ_ _ _ _ _=>yo (i:=1) nd rfl (Or.inl rfl)) (λ_ _ _ _ _=>jzv (js zn (qc (pv 1) rfl) (vc mO rfl) rfl)) (λ_ _ _ _ _=>pv 1)) jb)))),?_⟩;have hS:az K H lt (xs.map V.ref):=az.of hx
 have pl:=Paired.len pr;refine ⟨_,rfl,lt,rfl,⟨_,hS⟩,λDl nD=>⟨λi m H'=>m=all.length - i/\i<=all.length/\jg H H'/\∃ acc:List V,H' Dl=some (.lst acc)/\acc.length=((all.take i).filter λk=>Vanbka.opening k.lex).length,⟨_,rfl,Nat.zero_le _,jo nD _,[],jd,rfl⟩,?_⟩⟩;rintro i m H' ⟨rfl,hi,sm,acc,hD,la⟩;have hS':=sm.seq hS
 by_cases am:i < all.length
 ·have hlx:i < (xs.map V.ref).length:=by rw [List.length_map];omega
  have hti:all[i]? = some all[i]:=List.getElem?_eq_getElem am;obtain ⟨x,ex,tx⟩:=Paired.get pr hti;have hxi:(xs.map V.ref)[i]? = some (.ref x):=by rw [List.getElem?_map,ex];rfl
  have et:all.take (i + 1)=all.take i ++ [all[i]]:=by rw [List.take_add_one,hti];rfl
  refine .inr ⟨⟨_,_,hS',hxi⟩,λH2=>∃ m',m' < all.length - i/\(m'=all.length - (i + 1)/\i + 1<=all.length/\jg H H2/\∃ acc:List V,H2 Dl=some (.lst acc)/\acc.length=((all.take (i + 1)).filter λk=>Vanbka.opening k.lex).length),λ_ z=>z,?_⟩;rintro y H2 ⟨rfl,hy⟩;have ey:=hy _ hS'
  rw [hxi] at ey;cases ey;obtain ⟨dt,v,e,_⟩:=tx;have ho:=sm _ _ e
  have wt:Wf all[i].lex:=wf _ (List.getElem_mem am);have ok:=(jcb wt).1
  refine ⟨rfl,_,rfl,x,D.CT,dt,_,_,rfl,ho,U.c.cl,U.c.no _ (.head _),rfl,oa,_,rfl,.inr (sO _),rfl,by decide,_,rfl,?_⟩;rw [if_neg Bool.false_ne_true,jap];refine qd (λc=>?_) (λc=>?_)
  ·have op:Vanbka.opening all[i].lex=true:=by rw [ok];exact c
   refine ⟨_,rfl,acc,hD,?_,_,Nat.lt_of_lt_of_le (Nat.lt_succ_self _) (by omega),rfl,am,zm sm nD,_,jd,?_⟩
   ·have:acc.length<=all.length:=by
     rw [la];refine Nat.le_trans (List.length_filter_le _ _) ?_;rw [List.length_take];omega
    show acc.length < 2 ^ 24;omega
   ·rw [et,List.filter_append,List.length_append,List.length_append,la,List.filter_cons,if_pos op];rfl
  ·have op:¬ Vanbka.opening all[i].lex=true:=by rw [ok];exact c
   refine ⟨_,Nat.lt_of_lt_of_le (Nat.lt_succ_self _) (by omega),rfl,am,sm,acc,hD,?_⟩;rw [et,List.filter_append,List.length_append,la,List.filter_cons,if_neg op];rfl
 ·have e:i=all.length:=by omega
  subst e;rw [List.take_length] at la;refine .inl ⟨⟨_,hS',by rw [List.length_map];omega⟩,Dl,acc,rfl,.inl (az.of hD),?_⟩;rw [la];exact q _ sm
theorem j3o(td ps:List jw)(bs:List (List jw))(k:Str)(ls:List x8):wL 0 1 1 (td ++ [jw.mk k ls ps bs]) + wL 1 0 0 (td ++ [jw.mk k ls ps bs])=wL 0 1 1 (td ++ ps ++ bs.flatten) + wL 1 0 0 (td ++ ps ++ bs.flatten) + 1/\wL 0 1 0 (td ++ [jw.mk k ls ps bs])=bs.flatten.length + wL 0 1 0 (td ++ ps ++ bs.flatten)/\wL 1 0 0 (td ++ [jw.mk k ls ps bs])=ps.length + wL 1 0 0 (td ++ ps ++ bs.flatten)/\td.length + ps.length + bs.flatten.length<=wL 0 1 1 (td ++ ps ++ bs.flatten):=by
 have wy:wL 0 1 0 (td ++ [jw.mk k ls ps bs])=bs.flatten.length + wL 0 1 0 (td ++ ps ++ bs.flatten):=by
  rw [jdj,wL,wL,jw.w,jla,jdj,jdj,jfu];omega
 have wz:wL 1 0 0 (td ++ [jw.mk k ls ps bs])=ps.length + wL 1 0 0 (td ++ ps ++ bs.flatten):=by
  rw [jdj,wL,wL,jw.w,jla,jdj,jdj,jfu];omega
 rw [jfu,jfu,wy,wz,List.length_append,List.length_append,List.length_append];refine ⟨?_,rfl,rfl,Nat.le_add_right _ _⟩;show td.length + 1 + _ + _=_
 omega
theorem j32{a b c n:Nat}(h:a + b + c<=n)(hn:n<=1000000):a + b<=2 ^ 24/\∀ {x y:Nat},x + y<=c->a + b + x + y<=2 ^ 24:=⟨by omega,λ_=>by omega⟩
theorem j4l{s x y:Nat}:((s + x:Nat):Int) + (y:Int)=((s + (x + y):Nat):Int):=by omega
def jwn(K:W.Frag)(D:Ad):Sp:=λvs H Q _=>∃ (a:Addr) (us:List V) (l:List jw),vs=[.ref a]/\H a=some (.lst us)/\ji D.CN H l us/\wL 0 1 1 l + wL 1 0 0 l<=1000000/\∀ p H',jg H H'->H' p=some (.lst [.int ((wL 0 1 1 l:Nat):Int),.int ((wL 1 0 0 l:Nat):Int)])->Q (.ref p) H'
theorem j1t:jv ["program", "statements", "expressions", "waiting", "tree", "block"] ["program"] (jj jfj):=fs_
theorem j3v{f:Addr}{fd:FuncData}(F:Fun K "count_trees" "count_trees" jfj f fd)(C:zu K mg "Tree" D.CN ["kind", "leaves", "parts", "blocks", "depth", "place", "end"])(ml:mg "len"=none)(mi:mg "list"=none):xb P w K mg base (CXF P w) 1 f fd ["program"] (jwn K D):=by
 refine F.okF (k:=0) j1t (λvs H Q E h=>?_) (λac A outer s H vs Q E hr h=>?_)
 ·obtain ⟨a,us,l,rfl,_⟩:=h;rfl
 obtain ⟨a,us,nl,rfl,ha,hN,sz,q⟩:=h;have nd:=j1t.nd
 refine ⟨_,(jc (ju (i:=1) nd rfl (Or.inl rfl) (ye xu rfl ml PySem.boot_len (ja (pv 0) jb)))
   (jc (ju (i:=2) nd rfl (Or.inl rfl) qe)
   (jc (ju (i:=3) nd rfl (Or.inl rfl) (je_ jia rfl mi rfl (ja (pv 0) jb)))
   (jc (z6 jad (js jec (ye xu rfl ml PySem.boot_len (ja (pv 3) jb)) qe (j9 _))
    (jc (ju (i:=4) nd rfl (Or.inl rfl) (j2d PySem.F.plainAttrs_list PySem.F.slot_list_pop PySem.F.type_list_pop j2r (pv 3)))
    (jc (jbu (i:=2) nd rfl (Or.inl rfl) (ye xu rfl ml PySem.boot_len (ja (qc (pv 4) rfl) jb)) jdr)
    (jc (j6 (vd PySem.F.plainAttrs_list PySem.F.slot_list_extend PySem.F.type_list_extend jcd (pv 3) (ja (qc (pv 4) rfl) jb)))
    (je (jdm jad rfl (vz (qc (pv 4) rfl)) (yo (i:=5) nd rfl (Or.inl rfl))
     (jc (jbu (i:=1) nd rfl (Or.inl rfl) (ye xu rfl ml PySem.boot_len (ja (pv 5) jb)) jdr)
     (je (j6 (vd PySem.F.plainAttrs_list PySem.F.slot_list_extend PySem.F.type_list_extend jcd (pv 3) (ja (pv 5) jb)))))))))))
   (je (jp (j5 (ja (pv 1) (ja (pv 2) jb))))))))),?_⟩
 have ln:=ji.len _ _ hN;refine ⟨_,rfl,a,us,rfl,.inl (az.of ha),_,rfl,a,us,rfl,.inl (az.of ha),λl nL=>?_⟩;have s0:jg H (upd H l (.lst us)):=jo nL _
 let W:Nat->St->Hp->Prop:=λm σ H'=>∃ (todo:List jw) (vs:List V) (st ex:Nat) (v4 v5:Option V),σ=[some (.ref a),some (.int (st:Int)),some (.int (ex:Int)),some (.ref l),v4,v5]/\jg H H'/\H' l=some (.lst vs)/\ji D.CN H todo vs/\m=wL 0 1 1 todo + wL 1 0 0 todo/\m<=1000000/\st + wL 0 1 0 todo=wL 0 1 1 nl/\ex + wL 1 0 0 todo=wL 1 0 0 nl
 refine ⟨W,⟨_,nl,us,us.length,0,none,none,rfl,s0,jd,hN,rfl,sz,by rw [ln];exact (jfu 0 1 nl).symm,Nat.zero_add _⟩,?_⟩;rintro m σ H' ⟨todo,vs,st,ex,v4,v5,rfl,sm,hl,hT,rfl,mz,es,ee⟩;refine ⟨_,rfl,l,vs,rfl,.inl (az.of hl),_,_,rfl,rfl,_,rfl,qd (λc=>?_) (λc=>?_)⟩
 ·have c:(0:Int) < (vs.length:Int):=ot_ c;obtain ⟨td,x,v,rfl,hv,hT',hx⟩:=ji.last _ _ hT (by omega);obtain ⟨k,ls,ps,bs⟩:=x;obtain ⟨x,dx,a1,a2,a3,ah,af,ag,rfl,h1,h2,h3,h4,h0,h5,h6,h7⟩:=hx;have lb:=qr.len _ _ h7
  have lps:=ji.len _ _ h6;have ltd:=ji.len _ _ hT'
  obtain ⟨wx,wy,wz,wl⟩:=j3o td ps bs k ls;have nz:=wx▸mz
  obtain ⟨b1,b2⟩:=j32 wl (Nat.le_trans (Nat.le_add_right _ _) (Nat.le_of_succ_le nz));obtain ⟨N,n1,n2⟩:∃ N:St->Hp->Prop,(∀ σ' H2,N σ' H2->∃ m',m' < wL 0 1 1 (td ++ [jw.mk k ls ps bs]) + wL 1 0 0 (td ++ [jw.mk k ls ps bs])/\W m' σ' H2)/\∀ H2 ws v5,jg H H2->H2 l=some (.lst ws)->ji D.CN H (td ++ ps ++ bs.flatten) ws->N [some (.ref a),some (.int ((st + bs.flatten.length:Nat):Int)),some (.int ((ex:Int) + (af.length:Int))),some (.ref l),some (.ref x),v5] H2 :=
   ⟨_,λ_ _ z=>z,λH2 ws v5 s4 hw hW=>⟨_,(by rw [wx];exact Nat.lt_succ_self _),_,ws,st + bs.flatten.length,ex + ps.length,some (.ref x),v5,by rw [<- lps];rfl,s4,hw,hW,rfl,Nat.le_of_succ_le nz,by rw [<- es,wy,Nat.add_assoc],by rw [<- ee,wz,Nat.add_assoc]⟩⟩
  refine ⟨N,n1,?_⟩;refine ⟨_,rfl,.inl ⟨rfl,_,az.of hl⟩,l,vs,.ref x,rfl,rfl,hl,hv,?_⟩;have s2:jg H (upd H' l (.lst vs.dropLast)):=zm sm nL
  have e2:upd H' l (.lst vs.dropLast) l=some (.lst vs.dropLast):=jd;generalize upd H' l (.lst vs.dropLast)=H2 at s2 e2;refine ⟨_,rfl,_,rfl,x,D.CN,dx,_,_,rfl,s2 _ _ h1,C.cl,C.no _ (by decide),rfl,a2,af,rfl,.inl (az.of (s2 _ _ h3)),_,_,rfl,rfl,?_⟩;refine ⟨_,rfl,.inl ⟨rfl,_,az.of e2⟩,_,rfl,x,D.CN,dx,_,_,rfl,s2 _ _ h1,C.cl,C.no _ (by decide),rfl,l,a2,_,_,rfl,rfl,e2,s2 _ _ h3,?_,?_⟩
  ·rw [ltd,lps];exact b1
  have s3:jg H (upd H2 l (.lst (vs.dropLast ++ af))):=zm s2 nL;have e3:upd H2 l (.lst (vs.dropLast ++ af)) l=some (.lst (vs.dropLast ++ af)):=jd
  generalize upd H2 l (.lst (vs.dropLast ++ af))=H3 at s3 e3
  let Z:Nat->Nat->St->Hp->Prop:=λi m σ H'=>m=bs.length - i/\i<=bs.length/\jg H H'/\∃ (ws:List V) (v5:Option V),σ=[some (.ref a),some (.int ((st + (bs.take i).flatten.length:Nat):Int)),some (.int ((ex:Int) + (af.length:Int))),some (.ref l),some (.ref x),v5]/\H' l=some (.lst ws)/\ji D.CN H (td ++ ps ++ (bs.take i).flatten) ws
  refine ⟨_,rfl,x,D.CN,dx,_,_,rfl,s3 _ _ h1,C.cl,C.no _ (by decide),rfl,a3,rfl,⟨_,az.of (s3 _ _ h4)⟩,Z,
   ⟨_,rfl,Nat.zero_le _,s3,_,_,rfl,e3,?_⟩,?_⟩
  ·rw [List.take_zero,List.flatten_nil,List.append_nil];exact ji.app h6 _ _ hT'
  rintro i m σ H4 ⟨rfl,hi,s4,ws,v5,rfl,hw,hW⟩;have hS4:az K H4 a3 ag:=az.of (s4 _ _ h4)
  by_cases am:i < bs.length
  ·have hbi:bs[i]? = some bs[i]:=List.getElem?_eq_getElem am;obtain ⟨ab,wb,evb,hab,lwb,hNb⟩:=qr.get bs ag h7 i _ hbi;have et:(bs.take (i + 1)).flatten=(bs.take i).flatten ++ bs[i]:=by rw [List.take_add_one,hbi,List.flatten_append];simp
   have lnb:=ji.len _ _ hNb;have lnw:=ji.len _ _ hW
   have ft:=jvq bs (i + 1);rw [et,List.length_append] at ft;rw [List.length_append,List.length_append] at lnw;obtain ⟨M,m1,m2⟩:∃ M:St->Hp->Prop,(∀ σ' H2,M σ' H2->∃ m',m' < bs.length - i/\Z (i + 1) m' σ' H2)/\∀ H2 σ',(σ'=[some (.ref a),some (.int (((st + (bs.take i).flatten.length:Nat):Int) + (wb.length:Int))),some (.int ((ex:Int) + (af.length:Int))),some (.ref l),some (.ref x),some (.ref ab)])->jg H H2->H2 l=some (.lst (ws ++ wb))->M σ' H2 :=
    ⟨_,λ_ _ z=>z,λH2 σ' e5 s5 h5=>⟨_,Nat.lt_of_lt_of_le (Nat.lt_succ_self _) (by omega),rfl,am,s5,_,some (.ref ab),by
     rw [e5,et,List.length_append,<- lnb,j4l],h5,by
     rw [et,<- List.append_assoc];exact ji.app hNb _ _ hW⟩⟩
   refine .inr ⟨⟨_,_,hS4,evb⟩,M,m1,?_⟩;rintro y H5 ⟨rfl,hy⟩;have ey:=hy _ hS4
   rw [evb] at ey;cases ey;refine ⟨_,rfl,_,rfl,ab,wb,rfl,.inl (az.of (s4 _ _ hab)),_,_,rfl,rfl,?_⟩;refine ⟨_,rfl,.inl ⟨rfl,_,az.of hw⟩,_,rfl,l,ab,_,_,rfl,rfl,hw,s4 _ _ hab,?_,?_⟩
   ·rw [lnw,lnb];exact b2 ft
   exact m2 _ _ rfl (zm s4 nL) jd
  ·have e:i=bs.length:=by omega
   subst e;rw [List.take_length] at hW;rw [List.take_length];exact .inl ⟨⟨_,hS4,by rw [lb];exact Nat.le_refl _⟩,n2 _ _ _ s4 hw hW⟩
 ·have c:¬ (0:Int) < (vs.length:Int):=λz=>c (dt_ z);have lt:=ji.len _ _ hT
  have:todo=[]:=List.length_eq_zero_iff.mp (by omega);subst this;rw [wL] at es ee;refine ⟨_,rfl,_,rfl,(by show 2<=2 ^ 24;decide),λp np=>q p _ (sm.trans (jo np _)) ?_⟩;rw [jd,<- es,<- ee];rfl
end
open Vanbka (glue)
abbrev jkc:PySem.Stmt:=top 97
abbrev jrv:PySem.Stmt:=top 98
section
variable{P:Program}{w:World}{K:W.Frag}{mg:Str->Option Value}{base:Heap}{f:Addr}{fd:FuncData}{D:Ad}
def Wr(H:Hp)(Q:VK)(x:Bytes):Prop:=∀ a H',jg H H'->H a=none->H' a=some (.lst (vb x))->Q (.ref a) H'
def z5:Sp:=λvs H Q _=>∃ u:Bytes,vs=[.str (xo u)]/\u.length<=1000000/\Wr H Q u
theorem jnw:jv ["signs", "sign"] ["signs"] (jj jkc):=fs_
theorem jyf:ja8 ["signs", "sign"] (jj jkc) { kind:=.function,names:=[(".0",.local),("sign",.local),("ord",.globalImplicit)],isGenerator:=false,isCoroutine:=false } [("sign",1)]:=⟨rfl,by decide +kernel,by decide +kernel,by decide +kernel,by decide +kernel⟩
theorem juv(F:Fun K "spell" "spell" jkc f fd)(mo:mg "ord"=none):xb P w K mg base (CXF P w) 1 f fd ["signs"] z5:=by
 refine F.okF (k:=0) jnw (λvs H Q E h=>?_) (λac A outer s H vs Q E hr h=>?_)
 ·obtain ⟨u,rfl,_⟩:=h;rfl
 obtain ⟨u,rfl,hu,q⟩:=h;have nd:=jnw.nd
 refine ⟨_,je (jp (jd_ (own:=[("sign",1)]) (te:=tCB (λxs H Q=>∃ x,xs=[.str x]/\x.length=1/\Q (.int (x.cps.getD 0 0:Nat)) H) (qk (qy 1) xh)) rfl nd (j2b (pv 0)) jyf (λ_ _ _ _ _=>yo (i:=1) nd rfl (Or.inl rfl)) (λ_ _ _ _ _=>jbo)
  (λ_ _ _ _ _=>ye jyc rfl mo (by decide +kernel) (ja (pv 1) jb)))),?_⟩
 have sz:(xo u).cps.size=u.length:=by show ((u.map (·.toNat)).toArray).size=_;simp
 refine ⟨_,rfl,xo u,rfl,λDl nD=>⟨λi m H'=>m=u.length - i/\i<=u.length/\jg H H'/\H' Dl=some (.lst (vb (u.take i))),⟨_,rfl,Nat.zero_le _,jo nD _,jd⟩,?_⟩⟩;rintro i m H' ⟨rfl,hi,sm,hD⟩;by_cases am:i < u.length
 ·have hc:u[i]? = some u[i]:=List.getElem?_eq_getElem am;refine .inr ⟨by show i < _;rw [sz];exact am,λH2=>∃ m',m' < u.length - i/\(m'=u.length - (i + 1)/\i + 1<=u.length/\jg H H2/\H2 Dl=some (.lst (vb (u.take (i + 1))))),λ_ z=>z,?_⟩;rintro x H2 ⟨rfl,c,hx,rfl⟩;have ec:c=(u[i]).toNat:=by
   have:(xo u).cps[i]? = some (u[i]).toNat:=by
    show ((u.map (·.toNat)).toArray)[i]? = _;simp [hc]
   rw [this] at hx;exact (Option.some.inj hx).symm
  subst ec;refine ⟨rfl,_,rfl,_,rfl,rfl,_,hD,?_,_,Nat.lt_of_lt_of_le (Nat.lt_succ_self _) (by omega),rfl,am,zm sm nD,?_⟩
  ·rw [xx,List.length_take];show min i u.length < 2 ^ 24
   omega
  ·rw [jd,ja_ hc,jp_];rfl
 ·have e:i=u.length:=by omega
  subst e;rw [List.take_length] at hD;exact .inl ⟨by show _<=_;rw [sz];exact Nat.le_refl _,q Dl H' sm nD hD⟩
def jj5(K:W.Frag):Sp:=λvs H Q _=>∃ (a:Addr) (as:List Addr) (xs:List Bytes) (g:Bytes),vs=[.ref a,.str (xo g)]/\az K H a (as.map V.ref)/\wg H as xs/\g.length<=10/\(glue g xs).length<=1000000/\Wr H Q (glue g xs)
theorem jvp(g:Bytes)(xs:List Bytes)(x:Bytes):glue g (xs ++ [x])=if xs=[] then x else glue g xs ++ g ++ x:=by
 induction xs with
 | nil=>rfl
 | cons y l ih =>
  rw [if_neg (by simp)];cases l with
  | nil=>rfl
  | cons z l =>
   rw [if_neg (by simp)] at ih;show y ++ g ++ glue g ((z::l) ++ [x])=(y ++ g ++ glue g (z::l)) ++ g ++ x
   rw [ih];simp only [List.append_assoc]
theorem jow(g:Bytes)(xs:List Bytes)(i:Nat):(glue g (xs.take i)).length<=(glue g xs).length:=by
 induction xs generalizing i with
 | nil=>simp
 | cons x l ih =>
  cases i with
  | zero=>exact Nat.zero_le _
  | succ i =>
   rw [List.take_succ_cons];cases l with
   | nil=>simp
   | cons y l =>
    have e:glue g (x::y::l)=x ++ g ++ glue g (y::l):=rfl;cases i with
    | zero =>
     rw [List.take_zero,e];show x.length<=_
     rw [List.length_append,List.length_append];omega
    | succ i =>
     have:=ih (i + 1);rw [List.take_succ_cons] at this ⊢;have e2:glue g (x::y::l.take i)=x ++ g ++ glue g (y::l.take i):=rfl
     rw [e,e2,List.length_append,List.length_append,List.length_append,List.length_append];omega
theorem juf:jv ["pieces", "gap", "written", "at", "piece"] ["pieces", "gap"] (jj jrv):=fs_
theorem j0h(F:Fun K "join_pieces" "join_pieces" jrv f fd)(S:ax P w K mg base 1 "spell" ["signs"] z5)(me:mg "enumerate"=none):xb P w K mg base (CXF P w) 2 f fd ["pieces", "gap"] (jj5 K):=by
 refine F.okF (k:=1) juf (λvs H Q E h=>?_) (λac A outer s H vs Q E hr h=>?_)
 ·obtain ⟨a,as,xs,g,rfl,_⟩:=h;rfl
 obtain ⟨a,as,xs,g,rfl,hS,hp,hg,hb,q⟩:=h;have nd:=juf.nd
 refine ⟨_,jc (ju (i:=2) nd rfl (Or.inl rfl) (j5 jb))
  (jc (jdm jad rfl (jqs rfl me (ja (pv 0) jb)) (joh rfl (jcz (yo (i:=3) nd rfl (Or.inl rfl)) (jcz (yo (i:=4) nd rfl (Or.inl rfl)) jlk)))
   (jc (qi (js jec (pv 3) qe (j9 _)) (je (j6 (vd PySem.F.plainAttrs_list PySem.F.slot_list_extend PySem.F.type_list_extend jcd (pv 2) (ja (jh S hr rfl (ja (pv 1) jb)) jb)))) j3)
   (je (j6 (vd PySem.F.plainAttrs_list PySem.F.slot_list_extend PySem.F.type_list_extend jcd (pv 2) (ja (pv 4) jb))))))
  (je (jp (pv 2)))),?_⟩
 have pl:=Paired.len hp;refine ⟨by decide,λl nl=>?_⟩;have s0:jg H (upd H l (.lst [])):=jo nl _
 refine ⟨_,rfl,a,_,rfl,s0.seq hS,λi m σ H'=>m=xs.length - i/\i<=xs.length/\jg H H'/\H' l=some (.lst (vb (glue g (xs.take i))))/\∃ v3 v4,σ=[some (.ref a),some (.str (xo g)),some (.ref l),v3,v4],⟨_,rfl,Nat.zero_le _,s0,jd,none,none,rfl⟩,?_⟩;rintro i m σ H' ⟨rfl,hi,sm,hl,v3,v4,rfl⟩;have hS':=sm.seq hS
 by_cases am:i < xs.length
 ·have hxi:xs[i]? = some xs[i]:=List.getElem?_eq_getElem am;obtain ⟨ai,eai,hai⟩:=Paired.get hp hxi;have hai2:(as.map V.ref)[i]? = some (.ref ai):=by rw [List.getElem?_map,eai];rfl
  refine .inr ⟨⟨_,_,hS',hai2⟩,λσ' H2=>∃ m',m' < xs.length - i/\(m'=xs.length - (i + 1)/\i + 1<=xs.length/\jg H H2/\H2 l=some (.lst (vb (glue g (xs.take (i + 1)))))/\∃ v3 v4,σ'=[some (.ref a),some (.str (xo g)),some (.ref l),v3,v4]),λ_ _ z=>z,?_⟩;rintro x H2 ⟨Tp,y,rfl,hT,rfl,hy⟩;have ey:=hy _ hS'
  rw [hai2] at ey;cases ey;have s1:jg H' (upd H' Tp (.tup [.int (i:Nat),.ref ai])):=jo hT _
  have hl1:=s1 _ _ hl;have hle:=jow g xs (i + 1)
  have htk:xs.take (i + 1)=xs.take i ++ [xs[i]]:=by rw [List.take_add_one,hxi];rfl
  refine ⟨Tp,_,rfl,be.of jd,rfl,_,_,rfl,_,_,rfl,rfl,?_⟩;refine ⟨_,rfl,_,_,rfl,rfl,_,rfl,qd (λc=>?_) (λc=>?_)⟩
  ·have i0:0 < i:=by have:=ot_ c;omega
   have ne:xs.take i≠[]:=λz=>by
    have:=congrArg List.length z;rw [List.length_take,List.length_nil] at this;omega
   have eg:glue g (xs.take (i + 1))=glue g (xs.take i) ++ g ++ xs[i]:=by rw [htk,jvp,if_neg ne]
   have hle':(glue g (xs.take i) ++ g ++ xs[i]).length<=(glue g xs).length:=by rw [<- eg];exact hle
   rw [List.length_append,List.length_append] at hle';refine ⟨_,rfl,.inl ⟨rfl,_,az.of hl1⟩,_,rfl,g,rfl,by omega,λb H3 s3 nb hb3=>?_⟩;have hl3:=s3 _ _ hl1
   have lb:ai≠l:=λy=>by
    have:=sm _ _ (show H ai=_ from hai);rw [y] at hai;rw [nl] at hai;cases hai
   refine ⟨l,b,_,_,rfl,rfl,hl3,hb3,?_,?_⟩
   ·rw [xx,xx];show _<=2 ^ 24
    omega
   have ha4:(upd H3 l (.lst (vb (glue g (xs.take i)) ++ vb g))) ai=some (.lst (vb xs[i])):=by rw [jm lb];exact s3 _ _ (s1 _ _ (sm _ _ hai))
   refine ⟨_,rfl,.inl ⟨rfl,_,az.of jd⟩,_,rfl,l,ai,_,_,rfl,rfl,jd,ha4,?_,_,by omega,rfl,am,zm (zm (sm.trans (s1.trans s3)) nl) nl,?_,_,_,rfl⟩
   ·rw [List.length_append,xx,xx,xx];show _<=2 ^ 24
    omega
   ·rw [jd,eg];unfold vb;simp
  ·have i0:i=0:=by
    have:¬ ((0:Int) < ((i:Nat):Int)):=λz=>c (dt_ z);omega
   subst i0;have lb:ai≠l:=λy=>by rw [y] at hai;rw [nl] at hai;cases hai
   have eg:glue g (xs.take 1)=xs[0]:=by rw [htk];rfl
   have hle':(xs[0]).length<=(glue g xs).length:=by rw [<- eg];exact hle
   refine ⟨_,rfl,.inl ⟨rfl,_,az.of hl1⟩,_,rfl,l,ai,_,_,rfl,rfl,hl1,s1 _ _ (sm _ _ hai),?_,_,by omega,rfl,am,zm (sm.trans s1) nl,?_,_,_,rfl⟩
   ·rw [xx,xx];show 0 + _<=2 ^ 24
    omega
   ·rw [jd,eg];rfl
 ·have e:i=xs.length:=by omega
  subst e;rw [List.take_length] at hl;exact .inl ⟨⟨_,hS',by rw [List.length_map,pl];exact Nat.le_refl _⟩,_,rfl,q l H' sm nl hl⟩
end
end Prg
end
section
set_option maxRecDepth 100000
set_option maxHeartbeats 1000000
namespace L2
open PySem PySem.Spec PyProof.Rows
theorem js6(l c:Addr)(xs ys:Array Value)(n m:Nat)(dd:Option Addr)(sl:Array (Option Value))(h0:¬(!xs.isEmpty && Builtin.List.listTooLong (xs.size + ys.size))=true)(h1:xs.size<=sizeLine)(h2:xs.size + ys.size<=sizeLine + 1) :
  Meets (Builtin.«list.extend» ⟨[.ref l,.ref c],[]⟩) (λ_ R s=>s.heap.get? l=some { cls:=.type "list",dict:=none,data:=.seq xs n,slots := #[] }/\s.heap.get? c=some { cls:=.type "tuple",dict:=dd,data:=.seq ys m,slots:=sl }/\R (.ok (.ret Value.none)) { s with heap:=s.heap.update l (Obj.mapSeq λx=>x ++ ys),toks:=s.toks }) :=
 .of_wp λprog w A R s h=>by
  obtain ⟨hp,g,d,tk,os⟩:=s;obtain ⟨hl,hb,h⟩:=h;have f1:=AutoSeq1.idx_int
  have f2:=AutoSeq1.sub_tuple_tuple;have f3:=AutoSeq1.sub_list_list
  have f4:=AutoSeq1.sub_tuple_list;have f5:=AutoSeq1.sub_list_tuple
  have h3:(xs ++ ys).size<=sizeLine + 1:=by rw [Array.size_append];exact h2
  wp_walk using (wpAny_updateSeq hl rfl (hz:=h1) (_hz':=h3)),wpAny_loadPart' hl,wpAny_loadPart' hb
  exact ⟨_,rfl,h⟩
section
variable{X:Cx}
def jn9(K:W.Frag):V->List V->Hp->VK->Prop:=λx vs H Q=>∃ l c xs zs,x = .ref l/\vs=[.ref c]/\H l=some (.lst xs)/\be K H c zs/\xs.length + zs.length<=sizeLine/\Q .non (upd H l (.lst (xs ++ zs)))
theorem jsn:MtM X "list.extend" (jn9 X.K):=by
 intro pins s σ H x vs v us Q I rx rv h;obtain ⟨l,c,xs,zs,rfl,rfl,hH,hB,hz,q⟩:=h;cases rx;obtain ⟨u,rfl,ru⟩:=rv.one;cases ru;obtain ⟨z,ad,n,r,hl,e⟩:=I.lstM hH;obtain ⟨its2,r2,⟨⟨cl,dd,da,sl⟩,e2,hc,m,hd⟩,hz2⟩:=I.tuple hB;have hl2:=r2.length
 simp only at hc hd;subst hc hd;have hsz:ad.toArray.size + its2.toArray.size<=sizeLine:=by rw [List.size_toArray,List.size_toArray];omega
 have hlong:¬ (!ad.toArray.isEmpty && Builtin.List.listTooLong (ad.toArray.size + its2.toArray.size))=true:=by
  rw [jon hsz,Bool.and_false];exact Bool.false_ne_true
 refine call_meets F.slot_list_extend ⟨_,e,rfl⟩ F.entry_list_extend (F.args_list_extend_2 _ _) (js6 l c ad.toArray its2.toArray n m dd sl hlong (by rw [List.size_toArray];omega) (by omega)) ⟨e,e2,?_⟩;refine ⟨.non,_,I.lset (its':=ad ++ its2) hH e (by simp) (r.append r2) ?_,rfl,q⟩;rw [List.length_append];omega
def jzi(w:World)(K:W.Frag)(td ty tx:TE):TE:=λσ H Q=>td σ H λx H1=>∃ a ae,x = .ref a/\jct w K a ae/\ty σ H1 λy H2=>tx σ H2 λz H3=>∃ k,y=kV k/\Q ((zf ae k).getD z) H3
theorem jmh{o e f:Expr}{apos cpos:Pos}{td ty tx:TE}(ho:PE X o td)(he:PE X e ty)(hf:PE X f tx)(m:M2 X o "get" apos e f cpos):PE X (.Call (.Attribute o "get" apos) [e,f] [] cpos) (jzi X.w X.K td ty tx):=by
 intro pins s σ H Q I h;refine wpAny_Call_method m.base m.few m.line PySem.F.plainAttrs_dict PySem.F.slot_dict_get PySem.F.type_dict_get (thn (ho pins s σ H _ I h) λu s1 ⟨x,H1,I1,rx,a,ae,ex,d,q1⟩=>?_);subst ex;obtain rfl:u=Value.ref a:=rx;have d0:=d
 obtain ⟨nm,ob,es,ep,lk,hx,hd,_⟩:=d0;have hob:=I1.kIn _ _ lk
 refine ⟨⟨ob,hob,hx.1⟩,λb q=>?_,?_⟩
 ·cases q;exact ⟨ob,hob,hx.2.1⟩
 rw [m.trees];refine Calls.callWith_builtin rfl (Calls.evalArgs_plain (Calls.spliced_cons (thn (he pins s1 σ H1 _ I1 q1) λiv s2 ⟨y,H2,I2,ry,q2⟩ =>
  Calls.spliced_cons (thn (hf pins s2 σ H2 _ I2 q2) λfv s3 ⟨z,H3,I3,rz,k,ek,q3⟩=>Calls.spliced_nil ?_))))
 subst ek;obtain ⟨f1,mp,rel⟩:=d.map (P:=X.prog) I3.kIn;refine call_meetsIn PySem.F.slot_dict_get mp.typeIs PySem.F.entry_dict_get (PySem.F.args_dict_get_3 _ _ _) (meets_dict_get_default (yq X.prog X.w) a (jks ry) nm fv) ⟨_,mp,⟨_,H3,I3.tok _,?_,q3⟩⟩;exact (rel k).getD rz
end
end L2
end
section
set_option autoImplicit false
namespace Cell
open Vanbka
theorem j4d(s:String):(b s).length=s.toList.length:=by unfold b;rw [List.length_map]
theorem jay(k:Nat)(e:Expr)(f:Bytes):(put k e f).length<=f.length + 2:=by
 unfold put;split
 ·rw [List.length_append,List.length_append];show 1 + f.length + 1<=_
  omega
 ·omega
def fw:List Bytes->Nat
 | []=>0
 | x::l=>x.length + 2 + fw l
theorem z8{g:Bytes}(hg:g.length<=2):∀ l:List Bytes,(glue g l).length<=fw l
 | []=>Nat.le_refl _
 | [x]=>by show x.length<=x.length + 2 + 0;omega
 | x::y::l=>by
  have:=z8 hg (y::l);show (x ++ g ++ glue g (y::l)).length<=x.length + 2 + fw (y::l)
  rw [List.length_append,List.length_append];omega
theorem jip(n:Nat):(shownNat n).length<=nw n:=by
 unfold shownNat nw;rw [j4d];have:(toString n).toList.length=(Nat.toDigits 10 n).length:=by
  show (Nat.repr n).toList.length=_;unfold Nat.repr;simp
 omega
theorem jir(z:Int):(shownInt z).length<=1 + nw z.natAbs:=by
 unfold shownInt;split
 ·have:=jip z.natAbs;rw [List.length_append];show 1 + _<=_
  omega
 ·have:=jip z.natAbs;omega
theorem jli(s:Bytes):(shownQuoted s).length<=2 * s.length + 2:=by
 unfold shownQuoted;rw [List.length_append,List.length_append];have:(s.flatMap shownByte).length<=2 * s.length:=by
  induction s with
  | nil=>simp
  | cons c s ih =>
   rw [List.flatMap_cons,List.length_append,List.length_cons];have:(shownByte c).length<=2:=by
    unfold shownByte;split
    ·exact Nat.le_refl _
    split
    ·exact Nat.le_refl _
    split
    ·exact Nat.le_refl _
    ·show 1<=2;omega
   omega
 show 1 + _ + 1<=_;omega
theorem joa:∀ l:List Bytes,fw (l.map shownQuoted)<=bsw l
 | []=>Nat.le_refl _
 | x::l=>by
  have:=joa l;have:=jli x
  show (shownQuoted x).length + 2 + fw (l.map shownQuoted)<=100 + 2 * x.length + bsw l;omega
theorem jmn:∀ l:List Bytes,fw l<=bsw l
 | []=>Nat.le_refl _
 | x::l=>by
  have:=jmn l;show x.length + 2 + fw l<=100 + 2 * x.length + bsw l
  omega
theorem jbj(l:List Bytes):(shownBlock l).length<=fw l + 4:=by
 unfold shownBlock;split
 ·show 2<=_;omega
 ·rw [List.length_append,List.length_append];have:=z8 (g:=b " ") (by decide) l
  show 2 + _ + 2<=_;omega
theorem jnr(o:Op):o.sign.length<=3:=by cases o <;> decide
theorem joe(p:Prim):p.word.length<=4:=by cases p <;> decide
theorem jp9(x:Way):x.word.length<=5:=by cases x <;> decide
mutual
theorem yd:∀ e:Expr,e.form.length<=ew e
 | .num n=>by have:=jip n;rw [Expr.form,ew];omega
 | .quoted s=>by have:=jli s;rw [Expr.form,ew];omega
 | .truth v=>by rw [Expr.form,ew];cases v <;> decide
 | .nothing=>by rw [Expr.form,ew];decide
 | .name x=>by rw [Expr.form,ew];omega
 | .list l=>by
  have:=z8 (g:=b ", ") (by decide) l.forms;have:=jf7 l
  rw [Expr.form,ew,List.length_append,List.length_append];show 1 + _ + 1<=_;omega
 | .record .nil=>by rw [Expr.form,ew];show 3<=_;omega
 | .record (.cons x e l)=>by
  have:=z8 (g:=b ", ") (by decide) ((x ++ b ": " ++ e.form)::l.forms);have h:=jls (.cons x e l)
  rw [Fields.forms] at h;rw [Expr.form,ew,List.length_append,List.length_append];show 1 + _ + 1<=_;omega
 | .minus e=>by
  have:=yd e;have:=jay 9 e e.form
  rw [Expr.form,ew,List.length_append];show 1 + _<=_;omega
 | .not e=>by
  have:=yd e;have:=jay 4 e e.form
  rw [Expr.form,ew,List.length_append];show 4 + _<=_;omega
 | .bin o x y=>by
  have:=yd x;have:=yd y
  have:=jay o.left x x.form;have:=jay o.right y y.form
  have:=jnr o;rw [Expr.form,ew];simp only [List.length_append];show _ + 1 + _ + 1 + _<=_;omega
 | .pick c x y=>by
  have:=yd c;have:=yd x
  have:=yd y;have:=jay 1 c c.form
  have:=jay 1 x x.form;have:=jay 1 y y.form
  rw [Expr.form,ew];simp only [List.length_append];show _ + 3 + _ + 3 + _<=_;omega
 | .call f l=>by
  have:=yd f;have:=jay 9 f f.form
  have:=z8 (g:=b ", ") (by decide) l.forms;have:=jf7 l
  rw [Expr.form,ew];simp only [List.length_append];show _ + 1 + _ + 1<=_;omega
 | .index l i=>by
  have:=yd l;have:=yd i
  have:=jay 9 l l.form;rw [Expr.form,ew];simp only [List.length_append];show _ + 1 + _ + 1<=_;omega
 | .field r x=>by
  have:=yd r;have:=jay 9 r r.form
  rw [Expr.form,ew];simp only [List.length_append];show _ + 1 + _<=_;omega
 | .prim p l=>by
  have:=z8 (g:=b ", ") (by decide) l.forms;have:=jf7 l
  have:=joe p;rw [Expr.form,ew];simp only [List.length_append];show _ + 1 + _ + 1<=_;omega
 | .fn own ps s=>by
  have:=z8 (g:=b ", ") (by decide) ps;have:=jmn ps
  have:=jbj s.forms;have:=ja1 s
  have:(own.getD []).length<=ow own:=by
   cases own with
   | none=>exact Nat.zero_le _
   | some x=>show x.length<=x.length + ne x;omega
  rw [Expr.form,ew];simp only [List.length_append];show 3 + _ + 1 + _ + 2 + _<=_;omega
theorem jf7:∀ l:Exprs,fw l.forms<=esw l
 | .nil=>by rw [Exprs.forms,esw,fw];omega
 | .cons e l=>by
  have:=yd e;have:=jf7 l
  rw [Exprs.forms,esw,fw];omega
theorem jls:∀ l:Fields,fw l.forms<=fsw l
 | .nil=>by rw [Fields.forms,fsw,fw];omega
 | .cons x e l=>by
  have:=yd e;have:=jls l
  rw [Fields.forms,fsw,fw,List.length_append,List.length_append];show _ + 2 + _ + 2 + _<=_;omega
theorem jh4:∀ s:Stmt,s.form.length<=sw1 s
 | .leta x e=>by
  have:=yd e;rw [Stmt.form,sw1];simp only [List.length_append];show 4 + _ + 3 + _ + 1<=_;omega
 | .seta x e=>by
  have:=yd e;rw [Stmt.form,sw1];simp only [List.length_append];show 4 + _ + 3 + _ + 1<=_;omega
 | .way x e=>by
  have:=yd e;have:=jp9 x
  rw [Stmt.form,sw1];simp only [List.length_append];show _ + 1 + _ + 1<=_;omega
 | .iff c x=>by
  have:=yd c;have:=jbj x.forms
  have:=ja1 x;rw [Stmt.form,sw1];simp only [List.length_append];show 3 + _ + 1 + _<=_;omega
 | .iffElse c x y=>by
  have:=yd c;have:=jbj x.forms
  have:=ja1 x;have:=jbj y.forms
  have:=ja1 y;rw [Stmt.form,sw1];simp only [List.length_append];show 3 + _ + 1 + _ + 6 + _<=_;omega
 | .while_ c x=>by
  have:=yd c;have:=jbj x.forms
  have:=ja1 x;rw [Stmt.form,sw1];simp only [List.length_append];show 6 + _ + 1 + _<=_;omega
 | .for x e l=>by
  have:=yd e;have:=jbj l.forms
  have:=ja1 l;rw [Stmt.form,sw1];simp only [List.length_append];show 4 + _ + 4 + _ + 1 + _<=_;omega
 | .slider x v lo hi=>by
  have:=jir v;have:=jir lo
  have:=jir hi;rw [Stmt.form,sw1];simp only [List.length_append];show 7 + _ + 3 + _ + 4 + _ + 2 + _ + 1<=_;omega
 | .choice x v l=>by
  have:=z8 (g:=b ", ") (by decide) (l.map shownQuoted);have:=joa l
  have:=jip v;rw [Stmt.form,sw1];simp only [List.length_append];show 7 + _ + 3 + _ + 4 + _ + 1<=_;omega
theorem ja1:∀ l:Stmts,fw l.forms<=ssw l
 | .nil=>by rw [Stmts.forms,ssw,fw];omega
 | .cons s l=>by
  have:=jh4 s;have:=ja1 l
  rw [Stmts.forms,ssw,fw];omega
end
end Cell
end
section
set_option maxRecDepth 100000
set_option maxHeartbeats 4000000
namespace Prg
open PySem L2
open Vanbka (Bytes glue b shownNat shownInt shownByte shownQuoted)
abbrev jho:PySem.Stmt:=top 11
abbrev jjc:PySem.Stmt:=top 105
abbrev jjb:PySem.Stmt:=top 106
abbrev jn6:PySem.Stmt:=top 110
theorem jqc{s:String}(h:∀ c∈s.toList,c.toNat < 256):xo (b s)=Str.ofString s:=by
 unfold xo b;rw [List.map_map];have e:s.toList.map ((·.toNat) ∘ λc=>UInt8.ofNat c.toNat)=s.toList.map Char.toNat:=List.map_congr_left λc hc=>by
  show (UInt8.ofNat c.toNat).toNat=c.toNat;rw [UInt8.toNat_ofNat'];exact Nat.mod_eq_of_lt (h c hc)
 rw [e,Str.ofString_eq_toList]
theorem jh5(n:Nat):∀ c∈(toString n).toList,c.toNat < 256:=by
 intro c hc;have:c∈Nat.toDigits 10 n:=by
  have e:(toString n).toList=Nat.toDigits 10 n:=by
   show (Nat.repr n).toList=_;unfold Nat.repr;simp
  rw [e] at hc;exact hc
 have d:=Nat.isDigit_of_mem_toDigits (by decide) (by decide) this;unfold Char.isDigit at d;simp only [Bool.and_eq_true,decide_eq_true_eq] at d;have:c.val<=57:=d.2
 have:c.val.toNat<=57:=this;show c.val.toNat < 256
 omega
theorem jyi(s t:String):b (s ++ t)=b s ++ b t:=by unfold b;simp
theorem jx5(z:Int):xo (shownInt z)=Str.ofString (toString z):=by
 unfold shownInt shownNat;cases z with
 | ofNat n =>
  rw [if_neg (by exact Int.not_lt.mpr (Int.natCast_nonneg n))];exact jqc (jh5 n)
 | negSucc n =>
  rw [if_pos (Int.negSucc_lt_zero n)];have e:toString (Int.negSucc n) = "-" ++ toString (n + 1):=rfl
  have e2:(Int.negSucc n).natAbs=n + 1:=rfl;rw [e2,<- jyi,e];refine jqc λc hc=>?_;rw [String.toList_append] at hc;rcases List.mem_append.mp hc with y | y
  ·have:c='-':=by simpa using y
   rw [this];decide
  ·exact jh5 _ c y
section
variable{P:Program}{w:World}{K:W.Frag}{mg:Str->Option Value}{base:Heap}{f:Addr}{fd:FuncData}{D:Ad}
def jdl:Sp:=λvs H Q _=>∃ z:Int,vs=[.int z]/\z.natAbs.log2 < 1920/\(shownInt z).length<=1000000/\Wr H Q (shownInt z)
theorem jt7:jv ["number"] ["number"] (jj jjc):=fs_
theorem jr9(F:Fun K "write_number" "write_number" jjc f fd)(S:ax P w K mg base 1 "spell" ["signs"] z5)(ms:mg "str"=none):xb P w K mg base (CXF P w) 2 f fd ["number"] jdl:=by
 refine F.okF (k:=1) jt7 (λvs H Q E h=>?_) (λac A outer s H vs Q E hr h=>?_)
 ·obtain ⟨z,rfl,_⟩:=h;rfl
 obtain ⟨z,rfl,hz,hl,q⟩:=h;refine ⟨_,je (jp (jh S hr rfl (ja (je_ jo8 rfl ms (by decide +kernel) (ja (pv 0) jb)) jb))),?_⟩;exact ⟨_,rfl,z,rfl,hz,shownInt z,by rw [jx5];rfl,hl,q⟩
def joz(c:UInt8):Option Bytes:=if c == 92 then some [92,92] else if c == 34 then some [92,34] else if c == 10 then some [92,110] else none
theorem jk1(c:UInt8):(joz c).getD [c]=shownByte c:=by
 unfold joz shownByte;split
 ·rfl
 split
 ·rfl
 split
 ·rfl
 ·rfl
def jtj(w:World)(K:W.Frag)(mg:Str->Option Value):Prop:=∃ a ae,mg "ESCAPES"=some (.ref a)/\jct w K a ae/\∀ c:UInt8,match joz c with
 | none=>zf ae (.inl (c.toNat:Int))=none
 | some u=>∃ t,zf ae (.inl (c.toNat:Int))=some (.ref t)/\∀ H,be K H t (vb u)
def jdk(K:W.Frag):Sp:=λvs H Q _=>∃ (a:Addr) (u:Bytes),vs=[.ref a]/\az K H a (vb u)/\u.length<=300000/\Wr H Q (shownQuoted u)
theorem jl8:jv ["said", "written", "byte"] ["said"] (jj jjb):=fs_
theorem j0v(u:Bytes)(c:UInt8):(u ++ [c]).flatMap shownByte=u.flatMap shownByte ++ shownByte c:=by simp
theorem jox(u:Bytes):(u.flatMap shownByte).length<=2 * u.length:=by
 have:=Cell.jli u;unfold shownQuoted at this;rw [List.length_append,List.length_append] at this;have e:([34]:Bytes).length=1:=rfl
 rw [e] at this;omega
theorem jnd(u v:Bytes):vb (u ++ v)=vb u ++ vb v:=by unfold vb;rw [List.map_append]
theorem jr8(F:Fun K "write_quoted" "write_quoted" jjb f fd)(S:ax P w K mg base 1 "spell" ["signs"] z5)(Es:jtj w K mg):xb P w K mg base (CXF P w) 2 f fd ["said"] (jdk K):=by
 refine F.okF (k:=1) jl8 (λvs H Q E h=>?_) (λac A outer s H vs Q E hr h=>?_)
 ·obtain ⟨a,u,rfl,_⟩:=h;rfl
 obtain ⟨a,u,rfl,hS,hu,q⟩:=h;have nd:=jl8.nd
 obtain ⟨ea,ae,mE,dE,vE⟩:=Es;refine ⟨_,jc (ju (i:=1) nd rfl (Or.inl rfl) (jh S hr rfl (ja jf jb)))
  (jc (jdm jad rfl (vz (pv 0)) (yo (i:=2) nd rfl (Or.inl rfl)) (je (j6 (vd PySem.F.plainAttrs_list PySem.F.slot_list_extend PySem.F.type_list_extend jsn (pv 1) (ja (jmh (vc mE rfl) (pv 2) (jbw (ja (pv 2) jb)) ⟨rfl,rfl,rfl,rfl⟩) jb)))))
  (je (jp (qa qh (pv 1) (jh S hr rfl (ja jf jb)))))),?_⟩
 refine ⟨[34],rfl,by decide,λl H1 s1 nl hl1=>?_⟩;refine ⟨_,rfl,a,rfl,⟨_,s1.seq hS⟩,λi m σ H'=>m=u.length - i/\i<=u.length/\jg H H'/\H' l=some (.lst (vb ([34] ++ (u.take i).flatMap shownByte)))/\∃ v2,σ=[some (.ref a),some (.ref l),v2],⟨_,rfl,Nat.zero_le _,s1,hl1,none,rfl⟩,?_⟩;rintro i m σ H' ⟨rfl,hi,sm,hl,v2,rfl⟩;have hS':=sm.seq hS
 by_cases am:i < u.length
 ·have hc:u[i]? = some u[i]:=List.getElem?_eq_getElem am;have hx:(vb u)[i]? = some (.int ((u[i]).toNat:Int)):=by unfold vb;rw [List.getElem?_map,hc];rfl
  refine .inr ⟨⟨_,_,hS',hx⟩,λσ' H2=>∃ m',m' < u.length - i/\(m'=u.length - (i + 1)/\i + 1<=u.length/\jg H H2/\H2 l=some (.lst (vb ([34] ++ (u.take (i + 1)).flatMap shownByte)))/\∃ v2,σ'=[some (.ref a),some (.ref l),v2]),λ_ _ z=>z,?_⟩;rintro y H2 ⟨rfl,hy⟩;have ey:=hy _ hS'
  rw [hx] at ey;cases ey;have fl:=jox (u.take i)
  rw [List.length_take] at fl;refine ⟨_,rfl,.inl ⟨rfl,_,az.of hl⟩,ea,ae,rfl,dE,_,rfl,_,rfl,(by show 1<=2 ^ 24;decide),λp np=>⟨.inl ((u[i]).toNat:Int),rfl,?_⟩⟩;have sp:jg H2 (upd H2 p (.tup [.int ((u[i]).toNat:Int)])):=jo np _
  have hlp:=sp _ _ hl;have go:∀ (t:Addr),be K (upd H2 p (.tup [.int ((u[i]).toNat:Int)])) t (vb (shownByte u[i]))->jn9 K (.ref l) [.ref t] (upd H2 p (.tup [.int ((u[i]).toNat:Int)])) (λ_ H3=>∃ m',m' < u.length - i/\(m'=u.length - (i + 1)/\i + 1<=u.length/\jg H H3/\H3 l=some (.lst (vb ([34] ++ (u.take (i + 1)).flatMap shownByte)))/\∃ v2,([some (.ref a),some (.ref l),some (.int ((u[i]).toNat:Int))]:St)=[some (.ref a),some (.ref l),v2])):=by
   intro t ht;refine ⟨l,t,_,_,rfl,rfl,hlp,ht,?_,_,by omega,rfl,am,zm (sm.trans sp) nl,?_,_,rfl⟩
   ·have:(shownByte u[i]).length<=2:=by
     have:=jox [u[i]];rw [List.flatMap_singleton] at this;exact this
    rw [xx,xx,List.length_append];show 1 + _ + _<=2 ^ 24
    omega
   ·rw [jd,ja_ hc,j0v,<- List.append_assoc,jnd ([34] ++ _)]
  have:=vE u[i];cases he:joz u[i] with
  | none =>
   rw [he] at this;rw [this];refine go p ?_;rw [<- jk1,he];exact be.of jd
  | some z =>
   rw [he] at this;obtain ⟨t,e1,e2⟩:=this;rw [e1];refine go t ?_;rw [<- jk1,he];exact e2 _
 ·have e:i=u.length:=by omega
  subst e;rw [List.take_length] at hl;refine .inl ⟨⟨_,hS',by rw [xx];exact Nat.le_refl _⟩,_,rfl,[34],rfl,by decide,λl2 H2 s2 nl2 hl2=>?_⟩;have fl:=jox u
  refine ⟨l,l2,_,_,rfl,rfl,s2 _ _ hl,hl2,?_,λp np=>q p _ ((sm.trans s2).trans (jo np _)) (jk (sm.trans s2) np) ?_⟩
  ·rw [xx,xx,List.length_append];show 1 + _ + 1<=2 ^ 24
   omega
  ·rw [jd,<- jnd];rfl
end
open Vanbka (put)
def NT(te:TE)(σ:St)(H:Hp)(x:Bytes):Prop:=∀ H',jg H H'->∀ Q:VK,Wr H' Q x->te σ H' Q
theorem NT.mt{te:TE}{σ:St}{H:Hp}{x:Bytes}(h:NT te σ H x):MT te σ H x:=λH' s Q q=>h H' s Q λa H2 s2 _ e=>q a H2 s2 e
theorem NT.cat{t1 t2:TE}{σ:St}{H:Hp}{x y:Bytes}(h1:MT t1 σ H x)(h2:MT t2 σ H y)(sz:x.length + y.length<=1000000):NT (tOp jhu t1 t2) σ H (x ++ y):=by
 intro H' s Q q;refine h1 H' s _ λa H1 s1 e1=>h2 H1 (s.trans s1) _ λc H2 s2 e2=>?_;refine ⟨a,c,_,_,rfl,rfl,s2 _ _ e1,e2,?_,λp np=>q p _ ((s1.trans s2).trans (jo np _)) (jk (s1.trans s2) np) ?_⟩
 ·rw [xx,xx];exact Nat.le_trans sz (by decide)
 ·rw [jd,jnd]
def CT(te:TE)(σ:St)(H:Hp)(x:Bytes):Prop:=x.length<=1000000->MT te σ H x
def CN(te:TE)(σ:St)(H:Hp)(x:Bytes):Prop:=x.length<=1000000->NT te σ H x
theorem NT.c{te:TE}{σ:St}{H:Hp}{x:Bytes}(h:NT te σ H x):CT te σ H x:=λ_=>h.mt
theorem MT.c{te:TE}{σ:St}{H:Hp}{x:Bytes}(h:MT te σ H x):CT te σ H x:=λ_=>h
theorem CN.c{te:TE}{σ:St}{H:Hp}{x:Bytes}(h:CN te σ H x):CT te σ H x:=λl=>(h l).mt
theorem jee{x y:Bytes}{n:Nat}(h:(x ++ y).length<=n):x.length<=n:=by rw [List.length_append] at h;omega
theorem jiq{x y:Bytes}{n:Nat}(h:(x ++ y).length<=n):y.length<=n:=by rw [List.length_append] at h;omega
theorem CN.cat{t1 t2:TE}{σ:St}{H:Hp}{x y:Bytes}(h1:CT t1 σ H x)(h2:CT t2 σ H y):CN (tOp jhu t1 t2) σ H (x ++ y):=λl=>NT.cat (h1 (jee l)) (h2 (jiq l)) (by rw [List.length_append] at l;exact l)
theorem NT.spell{E:XK}{σ:St}{H:Hp}{u:Bytes}{z:Str}(e:z=xo u)(hl:u.length<=1000000):NT (ym z5 [] E (qk (tC (.str z)) xh)) σ H u:=by
 subst e;exact λH' s Q q=>⟨u,rfl,hl,q⟩
open Vanbka (Exprs Fields Stmts)
def joi:List (Str×Nat):=[("?",0),("not",3),("minus",8),("call",9),("element",9),("field",9)]
def yc(z:Str):Int:=match vi.lookup z with
 | some i=>i
 | none=>(((joi.lookup z).getD 10:Nat):Int)
def jm9:Vanbka.Expr->Str
 | .num _ => "NUMBER" | .quoted _ => "QUOTED" | .truth v=>if v then "yes" else "no" | .nothing => "none" | .name _ => "NAME" | .list _ => "list" | .record _ => "record" | .minus _ => "minus" | .not _ => "not"
 | .bin o _ _=>opK o | .pick _ _ _ => "?" | .call _ _ => "call" | .index _ _ => "element" | .field _ _ => "field" | .prim p _=>jdh p | .fn _ _ _ => "fn"
theorem jm0(e:Vanbka.Expr):yc (jm9 e)=(e.strength:Int):=by
 cases e with
 | truth v=>cases v <;> decide +kernel
 | bin o x y =>
  show yc (opK o)=((o.strength:Nat):Int)
  cases o <;> decide +kernel
 | prim p l =>
  show yc (jdh p)=((10:Nat):Int)
  cases p <;> decide +kernel
 | num n=>exact (show yc "NUMBER"=((10:Nat):Int) by decide +kernel)
 | quoted s=>exact (show yc "QUOTED"=((10:Nat):Int) by decide +kernel)
 | nothing=>exact (show yc "none"=((10:Nat):Int) by decide +kernel)
 | name x=>exact (show yc "NAME"=((10:Nat):Int) by decide +kernel)
 | list l=>exact (show yc "list"=((10:Nat):Int) by decide +kernel)
 | record l=>exact (show yc "record"=((10:Nat):Int) by decide +kernel)
 | minus e=>exact (show yc "minus"=((8:Nat):Int) by decide +kernel)
 | not e=>exact (show yc "not"=((3:Nat):Int) by decide +kernel)
 | pick c x y=>exact (show yc "?"=((0:Nat):Int) by decide +kernel)
 | call f l=>exact (show yc "call"=((9:Nat):Int) by decide +kernel)
 | index l i=>exact (show yc "element"=((9:Nat):Int) by decide +kernel)
 | field r x=>exact (show yc "field"=((9:Nat):Int) by decide +kernel)
 | fn o p s=>exact (show yc "fn"=((10:Nat):Int) by decide +kernel)
section
variable{P:Program}{w:World}{K:W.Frag}{mg:Str->Option Value}{base:Heap}{f:Addr}{fd:FuncData}{D:Ad}
def jth(w:World)(K:W.Frag)(mg:Str->Option Value):Prop:=∃ a ae,mg "OTHER_STRENGTHS"=some (.ref a)/\jct w K a ae/\∀ z:Str,zf ae (.inr z)=(joi.lookup z).map λ(m:Nat)=>V.int (m:Int)
def jj3:Sp:=λvs H Q _=>∃ z,vs=[.str z]/\Q (.int (yc z)) H
theorem jrs:jv ["kind"] ["kind"] (jj jho):=fs_
theorem jpl(F:Fun K "strength_of" "strength_of" jho f fd)(S:jf9 w K mg)(O:jth w K mg)(c:CI mg "GREATEST_STRENGTH" 10):xb P w K mg base (CXF P w) 1 f fd ["kind"] jj3:=by
 refine F.okF (k:=0) jrs (λvs H Q E h=>?_) (λac A outer s H vs Q E hr h=>?_)
 ·obtain ⟨z,rfl,_⟩:=h;rfl
 obtain ⟨z,rfl,q⟩:=h;obtain ⟨a,ae,mS,dS,tS⟩:=S;obtain ⟨oa,okv,mO,dO,vO⟩:=O;refine ⟨_,jc (qi (js jhz (pv 0) (vc mS rfl) rfl) (je (jp (xp jkt (jc1 (vc mS rfl) (pv 0) (λ_ _=>rfl)) qe (λ_ _=>rfl)))) j3)
  (je (jp (jmh (vc mO rfl) (pv 0) (qz c rfl) ⟨rfl,rfl,rfl,rfl⟩))),?_⟩
 have t:=tS z;unfold yc at q;refine ⟨_,rfl,a,ae,.inr z,rfl,dS,rfl,_,rfl,?_⟩;cases e:vi.lookup z with
 | none =>
  rw [e] at t q;rw [t];refine qd (λc=>absurd c (by decide)) (λ_=>⟨oa,okv,rfl,dO,_,rfl,.inr z,rfl,?_⟩);rw [vO];cases ho:joi.lookup z with
  | none=>rw [ho] at q;exact q
  | some m=>rw [ho] at q;exact q
 | some j =>
  rw [e] at t q;obtain ⟨tt,u,v,ev,sq⟩:=t;rw [ev];refine qd (λ_=>?_) (λc=>absurd rfl c);exact ⟨_,rfl,a,ae,.inr z,_,rfl,dS,rfl,ev,tt,_,_,_,rfl,rfl,sq _,rfl,q⟩
theorem jz1(o:Vanbka.Op):xo o.sign=if opK o = "percent" then ("%":Str) else opK o:=by cases o <;> decide +kernel
def jld:Sp:=λvs H Q _=>∃ o:Vanbka.Op,vs=[.str (opK o)]/\Wr H Q o.sign
theorem jzn:jv ["kind"] ["kind"] (jj jn6):=fs_
theorem jxd(F:Fun K "write_sign" "write_sign" jn6 f fd)(S:ax P w K mg base 1 "spell" ["signs"] z5)(c:CI mg "PERCENT" 37):xb P w K mg base (CXF P w) 2 f fd ["kind"] jld:=by
 refine F.okF (k:=1) jzn (λvs H Q E h=>?_) (λac A outer s H vs Q E hr h=>?_)
 ·obtain ⟨o,rfl,_⟩:=h;rfl
 obtain ⟨o,rfl,q⟩:=h;refine ⟨_,jc (qi (js xi (pv 0) jf (j9 _)) (je (jp (j5 (ja (qz c rfl) jb)))) j3) (je (jp (jh S hr rfl (ja (pv 0) jb)))),?_⟩;have es:=jz1 o
 refine ⟨_,rfl,rfl,_,rfl,qd (λk=>?_) (λk=>?_)⟩
 ·have k:=wo k;rw [if_pos k] at es;have eo:o.sign=[37]:=jhi (es.trans rfl)
  rw [eo] at q;exact ⟨(by show 1<=2 ^ 24;decide),λl nl=>q l _ (jo nl _) nl jd⟩
 ·have k:=jac k;rw [if_neg k] at es;have:=Cell.jnr o
  exact ⟨_,rfl,o.sign,by rw [es];rfl,by omega,q⟩
end
section
variable{P:Program}{w:World}{K:W.Frag}{mg:Str->Option Value}{base:Heap}{D:Ad}
theorem Wr.on{H H1:Hp}{Q:VK}{x:Bytes}(q:Wr H Q x)(s:jg H H1):Wr H1 Q x:=λa H' s' n e=>q a H' (s.trans s') (jk s n) e
def bg(R:List V->Hp->Bytes->Prop):Sp:=λvs H Q _=>∃ x,R vs H x/\Wr H Q x
theorem NT.call{R:List V->Hp->Bytes->Prop}{E:XK}{t:TA}{σ:St}{H:Hp}{x:Bytes}(h:AT t σ H λvs H2=>R vs H2 x):NT (ym (bg R) [] E t) σ H x:=λH' s Q q =>
 h H' s _ λvs H2 s2 r=>⟨x,by rw [List.append_nil];exact r,q.on s2⟩
theorem yg{te:TE}{ts:TS}{Dn:jbk}{σ:St}{H:Hp}{x:Bytes}{i:Nat}(h:NT te σ H x)(k:∀ a H1,jg H H1->H a=none->H1 a=some (.lst (vb x))->ts Dn (σ.set i (some (.ref a))) H1):jci (ji8 te (ja7 i)) ts Dn σ H :=
 h H (jg.refl H) _ λa H1 s n e=>k a H1 s n e
theorem x9{te:TE}{Dn:jbk}{σ:St}{H:Hp}{x:Bytes}(h:NT te σ H x)(q:Wr H Dn.rt x):jge te Dn σ H:=h H (jg.refl H) _ q
theorem zy{te:TE}{Dn:jbk}{σ:St}{H:Hp}{x:Bytes}(h:CN te σ H x)(q:Wr H Dn.rt x)(l:x.length<=1000000):jge te Dn σ H:=x9 (h l) q
def PcT(K:W.Frag)(te:TE)(σ:St)(H:Hp)(xs:List Bytes):Prop:=∀ H',jg H H'->∀ Q:VK,(∀ a as H2,jg H' H2->az K H2 a (as.map V.ref)->wg H2 as xs->Q (.ref a) H2)->te σ H' Q
theorem PcT.of{te:TE}{σ:St}{H:Hp}{as:List Addr}{xs:List Bytes}(h:LT K te σ H (as.map V.ref))(p:wg H as xs):PcT K te σ H xs:=λH' s Q q=>h H' s _ λa H2 s2 hS=>q a as H2 s2 hS (Paired.mapP p λ_ _ z=>s2 _ _ (s _ _ z))
theorem jkh{H H3:Hp}{Dl:Addr}{o:HO}(s3:jg H H3):∀ {as:List Addr} {ys:List Bytes},Dl∉as->wg H as ys->wg (upd H3 Dl o) as ys:=by
 intro as ys n h;induction h with
 | nil=>exact .nil
 | cons r t ih =>
  rename_i c d e f;have nc:c≠Dl:=λz=>n (by rw [z];exact .head _)
  exact .cons (by rw [jm nc];exact s3 _ _ r) (ih λz=>n (.tail _ z))
theorem PcT.lc{σ:St}{H:Hp}{ti te:TE}{j:Nat}{us:List V}{xs:List Bytes}(hi:LT K ti σ H us)(hl:us.length=xs.length)(sz:xs.length<=100000)
  (step:∀ (i:Nat) (v:V) (x:Bytes),us[i]? = some v->xs[i]? = some x->NT te ((zw σ [j]).set j (some v)) H x)
  (hws:∀ v,zw ((zw σ [j]).set j (some v)) [j]=zw σ [j]):PcT K (tLc (jis K ti) (ja7 j) jlc te [j]) σ H xs:=by
 intro H0 s0 Q q;refine hi H0 s0 _ λa H1 s1 hS=>⟨a,rfl,⟨_,hS⟩,λDl nD=>⟨λi m H'=>m=xs.length - i/\i<=xs.length/\jg H1 H'/\∃ as:List Addr,H' Dl=some (.lst (as.map V.ref))/\Dl∉as/\wg H' as (xs.take i),⟨_,rfl,Nat.zero_le _,jo nD _,[],jd,by simp,.nil⟩,?_⟩⟩
 rintro i m H' ⟨rfl,hile,sm,as,hD,nas,hp⟩;have hS':=sm.seq hS
 by_cases am:i < xs.length
 ·have hx:us[i]? = some us[i]:=List.getElem?_eq_getElem (by omega);have hxi:xs[i]? = some xs[i]:=List.getElem?_eq_getElem am
  refine .inr ⟨⟨_,_,hS',hx⟩,λH2=>∃ m',m' < xs.length - i/\(m'=xs.length - (i + 1)/\i + 1<=xs.length/\jg H1 H2/\∃ as:List Addr,H2 Dl=some (.lst (as.map V.ref))/\Dl∉as/\wg H2 as (xs.take (i + 1))),λ_ z=>z,?_⟩;rintro x H2 ⟨rfl,hy⟩;have ey:=hy _ hS'
  rw [hx] at ey;cases ey;refine ⟨hws _,step i _ _ hx hxi H2 ((s0.trans s1).trans sm) _ λp H3 s3 np e3=>?_⟩;have pD:p≠Dl:=λz=>by rw [z,hD] at np;cases np
  have hD3:=s3 _ _ hD;have pl:=Paired.len hp
  refine ⟨_,hD3,?_,_,Nat.lt_of_lt_of_le (Nat.lt_succ_self _) (by omega),rfl,am,zm (sm.trans s3) nD,as ++ [p],?_,?_,?_⟩
  ·rw [List.length_map,pl,List.length_take];show min i xs.length < 2 ^ 24
   omega
  ·rw [jd,List.map_append];rfl
  ·intro z;rcases List.mem_append.mp z with y | y
   ·exact nas y
   ·exact pD (List.mem_singleton.mp y).symm
  ·rw [List.take_add_one,hxi];exact Paired.snoc (jkh s3 nas hp) (by show upd H3 Dl _ p=_;rw [jm pD];exact e3)
 ·have e:i=xs.length:=by omega
  subst e;rw [List.take_length] at hp;exact .inl ⟨⟨_,hS',by omega⟩,q Dl as H' (s1.trans sm) (az.of hD) hp⟩
theorem NT.join{E:XK}{σ:St}{H:Hp}{te:TE}{xs:List Bytes}{z:Str}{g:Bytes}(h:PcT K te σ H xs)(ez:z=xo g)(hg:g.length<=10)(bd:(glue g xs).length<=1000000) :
  NT (ym (jj5 K) [] E (qk te (qk (tC (.str z)) xh))) σ H (glue g xs):=by
 subst ez;intro H' s Q q;exact h H' s _ λa as H2 s2 e p=>⟨a,as,xs,g,rfl,e,p,hg,bd,q.on s2⟩
def RE(D:Ad)(d:Nat):List V->Hp->Bytes->Prop:=λvs H x=>∃ (e:Vanbka.Expr) (v:V) (k:Nat),vs=[v,.int (k:Int)]/\jz D.CN H (jx e) v/\e.depth<=d/\Cell.ew e<=MW/\x=put k e e.form
def RT(D:Ad)(d:Nat)(S:Vanbka.Expr->Prop):List V->Hp->Bytes->Prop:=λvs H x=>∃ (e:Vanbka.Expr) (v:V),vs=[v]/\S e/\jz D.CN H (jx e) v/\e.depth<=d/\Cell.ew e<=MW/\x=e.form
def RS(D:Ad)(d:Nat)(S:Vanbka.Stmt->Prop):List V->Hp->Bytes->Prop:=λvs H x=>∃ (e:Vanbka.Stmt) (v:V),vs=[v]/\S e/\jz D.CN H (yb e) v/\e.depth<=d/\Cell.sw1 e<=MW/\x=e.form
def RL(K:W.Frag)(D:Ad)(d:Nat):List V->Hp->Bytes->Prop:=λvs H x=>∃ (l:Exprs) (a:Addr) (us:List V),vs=[.ref a]/\az K H a us/\us.length<=1000/\ji D.CN H (y6 l) us/\l.depth<=d/\Cell.esw l<=MW/\x=glue (b ", ") l.forms
def RB(K:W.Frag)(D:Ad)(d:Nat):List V->Hp->Bytes->Prop:=λvs H x=>∃ (l:Stmts) (a:Addr) (us:List V),vs=[.ref a]/\az K H a us/\us.length<=1000/\ji D.CN H (xk l) us/\l.depth<=d/\Cell.ssw l<=MW/\x=Vanbka.shownBlock l.forms
structure vt(P:Program)(w:World)(K:W.Frag)(mg:Str->Option Value)(base:Heap)(D:Ad)(d:Nat):Prop where
 expr:ax P w K mg base (5 * d + 5) "write_expression" ["tree", "wanted"] (bg (RE D d))
 stmt:ax P w K mg base (5 * d + 5) "write_statement" ["tree"] (bg (RS D d jtk))
structure jaa(P:Program)(w:World)(K:W.Frag)(mg:Str->Option Value)(base:Heap)(D:Ad):Prop where
 C:zu K mg "Tree" D.CN ["kind", "leaves", "parts", "blocks", "depth", "place", "end"]
 spell:ax P w K mg base 1 "spell" ["signs"] z5
 join:ax P w K mg base 2 "join_pieces" ["pieces", "gap"] (jj5 K)
 number:ax P w K mg base 2 "write_number" ["number"] jdl
 quoted:ax P w K mg base 2 "write_quoted" ["said"] (jdk K)
 strength:ax P w K mg base 1 "strength_of" ["kind"] jj3
 sign:ax P w K mg base 2 "write_sign" ["kind"] jld
 any:CI mg "ANY" 0
 chosen:CI mg "CHOSEN" 1
 denied:CI mg "DENIED" 4
 reached:CI mg "REACHED" 9
 sides:jf9 w K mg
 sidesLR:∃ a ae,mg "SIDES"=some (.ref a)/\jct w K a ae/\∀ o:Vanbka.Op,∃ t,zf ae (.inr (opK o))=some (.ref t)/\∀ H,be K H t [.int (o.strength:Nat),.int (o.left:Nat),.int (o.right:Nat)]
 m_len:mg "len"=none
 m_list:mg "list"=none
 m_zip:mg "zip"=none
theorem jkl:∀ {l:Exprs} {i:Nat} {x:Bytes},l.forms[i]? = some x->∃ e,(y6 l)[i]? = some (jx e)/\x=e.form/\e.depth<=l.depth/\Cell.ew e<=Cell.esw l
 | .nil,i,x,h=>by simp [Exprs.forms] at h
 | .cons e l,0,x,h=>by
  rw [Exprs.forms] at h;cases h;refine ⟨e,by rw [y6];rfl,rfl,?_,?_⟩
  ·rw [Exprs.depth];omega
  ·rw [Cell.esw];omega
 | .cons e l,i + 1,x,h=>by
  rw [Exprs.forms,List.getElem?_cons_succ] at h;obtain ⟨e',h1,h2,h3,h4⟩:=jkl h;refine ⟨e',by rw [y6,List.getElem?_cons_succ];exact h1,h2,?_,?_⟩
  ·rw [Exprs.depth];omega
  ·rw [Cell.esw];omega
theorem jg0:∀ {l:Stmts} {i:Nat} {x:Bytes},l.forms[i]? = some x->∃ e,(xk l)[i]? = some (yb e)/\x=e.form/\e.depth<=l.depth/\Cell.sw1 e<=Cell.ssw l
 | .nil,i,x,h=>by simp [Stmts.forms] at h
 | .cons e l,0,x,h=>by
  rw [Stmts.forms] at h;cases h;refine ⟨e,by rw [xk];rfl,rfl,?_,?_⟩
  ·rw [Stmts.depth];omega
  ·rw [Cell.ssw];omega
 | .cons e l,i + 1,x,h=>by
  rw [Stmts.forms,List.getElem?_cons_succ] at h;obtain ⟨e',h1,h2,h3,h4⟩:=jg0 h;refine ⟨e',by rw [xk,List.getElem?_cons_succ];exact h1,h2,?_,?_⟩
  ·rw [Stmts.depth];omega
  ·rw [Cell.ssw];omega
theorem jkw:∀ l:Exprs,l.forms.length=(y6 l).length
 | .nil=>by rw [Exprs.forms,y6];rfl
 | .cons e l=>by rw [Exprs.forms,y6,List.length_cons,List.length_cons,jkw l]
theorem jg7:∀ l:Stmts,l.forms.length=(xk l).length
 | .nil=>by rw [Stmts.forms,xk];rfl
 | .cons e l=>by rw [Stmts.forms,xk,List.length_cons,List.length_cons,jg7 l]
theorem jtz(u v:Bytes):xo (u ++ v)=xo u ++ xo v:=by
 show (⟨((u ++ v).map (·.toNat)).toArray⟩:Str)=Str.append ⟨(u.map (·.toNat)).toArray⟩ ⟨(v.map (·.toNat)).toArray⟩;unfold Str.append;simp
def jy0:R2:=λx y H Q=>∃ i j,x = .str i/\y = .str j/\i.length + j.length<=sizeLine/\Q (.str (i ++ j)) H
theorem jio{X:Cx}:OpR X (binaryOp .Add) jy0:=jr7
theorem NT.spellAdd{E:XK}{σ:St}{H:Hp}{te:TE}{z y:Str}{u v:Bytes}(hv:∀ H',jg H H'->∀ Q:VK,Q (.str z) H'->te σ H' Q)(e1:z=xo u)(e2:y=xo v:=by decide +kernel)(h1:u.length<=500:=by decide +kernel)(h2:v.length<=500:=by decide +kernel):NT (ym z5 [] E (qk (tOp jy0 te (tC (.str y))) xh)) σ H (u ++ v):=by
 subst e1 e2;refine λH' s Q q=>hv H' s _ ⟨_,_,rfl,rfl,?_,u ++ v,by rw [jtz];rfl,?_,q⟩
 ·rw [jhh,jhh];show _<=2 ^ 24
  omega
 ·rw [List.length_append];omega
theorem jlj(e:Vanbka.Expr)(f:Bytes):put 0 e f=f:=by unfold put;rw [if_neg (Nat.not_lt_zero _)]
theorem NT.lit{E:XK}{σ:St}{H:Hp}{z:Str}(s:String)(e:z=xo (b s):=by decide +kernel)(hl:(b s).length<=1000000:=by decide +kernel):NT (ym z5 [] E (qk (tC (.str z)) xh)) σ H (b s):=NT.spell e hl
theorem AT.part{d:Nat}{σ:St}{H:Hp}{i j k:Nat}{x:Addr}{z:Str}{ls:List x8}{ps:List jw}{bs:List (List jw)}{e:Vanbka.Expr}{tk:TE}(C:zu K mg "Tree" D.CN ["kind", "leaves", "parts", "blocks", "depth", "place", "end"])(T:qp D H x z ls ps bs)(hi:σ[i]? = some (some (.ref x)))(hj:ps[j]? = some (jx e))(hd:e.depth<=d)(hw:Cell.ew e<=MW)
  (hk:∀ H',jg H H'->∀ Q:VK,Q (.int (k:Int)) H'->tk σ H' Q):AT (qk (tOp (jgu K) (ja4 K (qy i) "parts") (tC (.int (j:Int)))) (qk tk xh)) σ H λvs H2=>RE D d vs H2 (put k e e.form):=λH' s Q q =>
 j1b C (T.same s) hi hj λv nv=>hk H' s _ (q _ H' (jg.refl H') ⟨e,v,k,rfl,nv,hd,hw,rfl⟩)
theorem NT.part{d:Nat}{E:XK}{σ:St}{H:Hp}{i j k:Nat}{x:Addr}{z:Str}{ls:List x8}{ps:List jw}{bs:List (List jw)}{e:Vanbka.Expr}(C:zu K mg "Tree" D.CN ["kind", "leaves", "parts", "blocks", "depth", "place", "end"])(T:qp D H x z ls ps bs)(hi:σ[i]? = some (some (.ref x)))(hj:ps[j]? = some (jx e))(hd:e.depth<=d)(hw:Cell.ew e<=MW) :
  NT (ym (bg (RE D d)) [] E (qk (tOp (jgu K) (ja4 K (qy i) "parts") (tC (.int (j:Int)))) (qk (tC (.int (k:Int))) xh))) σ H (put k e e.form):=NT.call (AT.part C T hi hj hd hw j1a)
abbrev jeu:PySem.Stmt:=top 113
theorem jl9:jv ["parts", "part"] ["parts"] (jj jeu):=fs_
theorem jte:ja8 ["parts", "part"] (jj jeu) { kind:=.function,names:=[(".0",.local),("part",.local),("write_expression",.globalImplicit),("ANY",.globalImplicit)],isGenerator:=false,isCoroutine:=false } [("part",1)]:=⟨rfl,by decide +kernel,by decide +kernel,by decide +kernel,by decide +kernel⟩
theorem jsd(Kn:jr K mg "write_listed" ["parts"] jeu)(B:jaa P w K mg base D){d:Nat}(I:vt P w K mg base D d):ax P w K mg base (5 * d + 6 + 1) "write_listed" ["parts"] (bg (RL K D d)):=by
 refine wk Kn jl9 (λ_ _ _ _ h=>by obtain ⟨_,⟨l,a,us,rfl,hS,hn,hN,hd,hw,rfl⟩,_⟩:=h;rfl) λf ac A outer s H vs Q E hr h=>?_;obtain ⟨_,⟨l,a,us,rfl,hS,hn,hN,hd,hw,rfl⟩,q⟩:=h;have nd:=jl9.nd
 have m_len:=B.m_len;have m_list:=B.m_list
 have m_zip:=B.m_zip;have C:=B.C
 obtain ⟨gf,gfd,gF,gb,gk,gm⟩:=I.expr;refine ⟨_,(je (jp (jh B.join hr rfl (ja (jd_ (own:=[("part",1)]) (te:=(ym (bg (RE D d)) [] (λ_ _ _=>False) (qk (qy 1) (qk (tC (.int 0)) xh)))) rfl nd (vz (pv 0)) jte (λ_ _ _ _ _=>yo (i:=1) nd rfl (Or.inl rfl)) (λ_ _ _ _ _=>jbo) (λ_ _ _ _ _=>(v7 gF (hr.mono (by omega)) rfl gm gk gb .nil jb7 (ja (pv 1) (ja (qz B.any rfl) jb))))) (ja jf jb)) rk))),?_⟩;have fl:=Cell.jf7 l
 have gl:=Cell.z8 (g:=b ", ") (by decide) l.forms;have ln:=ji.len _ _ hN
 have lf:=jkw l;refine x9 (NT.join (PcT.lc (LT.var rfl hS) (by omega) (by omega) (λi v x hv hx=>?_) (λ_=>rfl)) (by decide +kernel) (by decide) (by unfold MW at hw;omega)) q;obtain ⟨e,h1,rfl,h3,h4⟩:=jkl hx;obtain ⟨v',ev,nv⟩:=ji.get _ _ hN i _ h1;rw [hv] at ev;cases ev;exact NT.call λH' s Q' q'=>⟨_,rfl,q' _ H' (jg.refl _) ⟨e,_,0,rfl,jz.same s _ _ nv,by omega,by omega,(jlj _ _).symm⟩⟩
abbrev jf0:PySem.Stmt:=top 100
theorem jnv:jv ["statements", "written", "statement"] ["statements"] (jj jf0):=fs_
theorem jv4:ja8 ["statements", "written", "statement"] (jj jf0) { kind:=.function,names:=[(".0",.local),("statement",.local),("write_statement",.globalImplicit)],isGenerator:=false,isCoroutine:=false } [("statement",2)]:=⟨rfl,by decide +kernel,by decide +kernel,by decide +kernel,by decide +kernel⟩
theorem ju4(Kn:jr K mg "write_block" ["statements"] jf0)(B:jaa P w K mg base D){d:Nat}(I:vt P w K mg base D d):ax P w K mg base (5 * d + 5 + 1) "write_block" ["statements"] (bg (RB K D d)):=by
 refine wk Kn jnv (λ_ _ _ _ h=>by obtain ⟨_,⟨l,a,us,rfl,hS,hn,hN,hd,hw,rfl⟩,_⟩:=h;rfl) λf ac A outer s H vs Q E hr h=>?_;obtain ⟨_,⟨l,a,us,rfl,hS,hn,hN,hd,hw,rfl⟩,q⟩:=h;have nd:=jnv.nd
 have m_len:=B.m_len;have m_list:=B.m_list
 have m_zip:=B.m_zip;have C:=B.C
 obtain ⟨gf,gfd,gF,gb,gk,gm⟩:=I.stmt;refine ⟨_,(jc (qi (js xi (ye xu (by rfl) m_len PySem.boot_len (ja (pv 0) jb)) qe (j9 _)) (je (jp (jh B.spell hr rfl (ja jf jb) rk))) j3)
   (jc (ju (i:=1) nd rfl (Or.inl rfl) (jh B.join hr rfl (ja (jd_ (own:=[("statement",2)]) (te:=(ym (bg (RS D d jtk)) [] (λ_ _ _=>False) (qk (qy 2) xh))) rfl nd (vz (pv 0)) jv4 (λ_ _ _ _ _=>yo (i:=2) nd rfl (Or.inl rfl)) (λ_ _ _ _ _=>jbo) (λ_ _ _ _ _=>(v7 gF (hr.mono (by omega)) rfl gm gk gb .nil jb7 (ja (pv 2) jb)))) (ja jf jb)) rk))
   (je (jp (qa qh (qa qh (jh B.spell hr rfl (ja jf jb) rk) (pv 1)) (jh B.spell hr rfl (ja jf jb) rk)))))),?_⟩
 have fl:=Cell.ja1 l;have gl:=Cell.z8 (g:=b " ") (by decide) l.forms
 have ln:=ji.len _ _ hN;have lf:=jg7 l
 refine jnt ⟨_,rfl,a,us,rfl,.inl hS,rfl,_,rfl,qd (λc=>?_) (λc=>?_)⟩
 ·have c:(us.length:Int)=0:=by have:=ot_ c;injection this
  have e:l.forms=[]:=List.eq_nil_of_length_eq_zero (by omega);have e2:Vanbka.shownBlock l.forms=b "{}":=by rw [e];rfl
  rw [e2] at q;exact x9 (NT.lit "{}") q
 ·have c:¬ (us.length:Int)=0:=λz=>c (dt_ (by rw [z]));have e:l.forms.isEmpty=false:=by
   cases h:l.forms with
   | nil=>rw [h] at lf;rw [List.length_nil] at lf;omega
   | cons x y=>rfl
  have e2:Vanbka.shownBlock l.forms=b "{ " ++ glue (b " ") l.forms ++ b " }":=by
   unfold Vanbka.shownBlock;rw [e];rfl
  rw [e2] at q;have bd:(b "{ " ++ glue (b " ") l.forms ++ b " }").length<=1000000:=by
   rw [<- e2];have:=Cell.jbj l.forms
   unfold MW at hw;omega
  refine yg (NT.join (g:=b " ") (xs:=l.forms) (PcT.lc (LT.var rfl hS) (by omega) (by omega) (λi v x hv hx=>?_) (λ_=>rfl)) (by decide +kernel) (by decide) (by unfold MW at hw;omega)) λp H1 s1 n1 e1=>?_
  ·obtain ⟨e,h1,rfl,h3,h4⟩:=jg0 hx;obtain ⟨v',ev,nv⟩:=ji.get _ _ hN i _ h1;rw [hv] at ev;cases ev;exact NT.call λH' s Q' q'=>⟨_,rfl,q' _ H' (jg.refl _) ⟨e,_,rfl,trivial,jz.same s _ _ nv,by omega,by omega,rfl⟩⟩
  ·exact zy (CN.cat (CN.cat (NT.lit "{ ").c (MT.var rfl e1).c).c (NT.lit " }").c) (q.on s1) bd
theorem ji4:∀ {l:Fields} {i:Nat} {x:Bytes},l.forms[i]? = some x->∃ n e,(je1 l)[i]? = some (.bytes n)/\(vo l)[i]? = some (jx e)/\x=n ++ b ": " ++ e.form/\e.depth<=l.depth/\Cell.ew e<=Cell.fsw l/\n.length<=Cell.fsw l
 | .nil,i,x,h=>by simp [Fields.forms] at h
 | .cons n e l,0,x,h=>by
  rw [Fields.forms] at h;cases h;refine ⟨n,e,by rw [je1];rfl,by rw [vo];rfl,rfl,?_,?_,?_⟩
  ·rw [Fields.depth];omega
  ·rw [Cell.fsw];omega
  ·rw [Cell.fsw];omega
 | .cons n e l,i + 1,x,h=>by
  rw [Fields.forms,List.getElem?_cons_succ] at h;obtain ⟨n',e',h0,h1,h2,h3,h4,h5⟩:=ji4 h;refine ⟨n',e',by rw [je1,List.getElem?_cons_succ];exact h0,by rw [vo,List.getElem?_cons_succ];exact h1,h2,?_,?_,?_⟩
  ·rw [Fields.depth];omega
  ·rw [Cell.fsw];omega
  ·rw [Cell.fsw];omega
theorem jkv:∀ l:Fields,l.forms.length=(vo l).length
 | .nil=>by rw [Fields.forms,vo];rfl
 | .cons x e l=>by rw [Fields.forms,vo,List.length_cons,List.length_cons,jkv l]
def jpf(e:Vanbka.Expr):Prop:=∃ l,e = .record l
def j3a(e:Vanbka.Expr):Prop:=∃ o p s,e = .fn o p s
def jrd(e:Vanbka.Expr):Prop:=(∃ f l,e = .call f l)\/(∃ l i,e = .index l i)\/∃ r x,e = .field r x
def jwe(e:Vanbka.Expr):Prop:=∃ c x y,e = .pick c x y
def jy_(e:Vanbka.Expr):Prop:=∃ o x y,e = .bin o x y
abbrev jgk:PySem.Stmt:=top 115
theorem jl7:jv ["tree", "fields", "name", "part"] ["tree"] (jj jgk):=fs_
theorem jsc(Kn:jr K mg "write_record" ["tree"] jgk)(B:jaa P w K mg base D){d:Nat}(I:vt P w K mg base D d):ax P w K mg base (5 * d + 6 + 1) "write_record" ["tree"] (bg (RT D (d + 1) jpf)):=by
 refine wk Kn jl7 (λ_ _ _ _ h=>by obtain ⟨_,⟨e,v,rfl,⟨l,rfl⟩,nv,hd,hw,rfl⟩,_⟩:=h;rfl) λf ac A outer s H vs Q E hr h=>?_;obtain ⟨_,⟨e,v,rfl,⟨l,rfl⟩,nv,hd,hw,rfl⟩,q⟩:=h;have nd:=jl7.nd
 have m_len:=B.m_len;have m_list:=B.m_list
 have m_zip:=B.m_zip;have C:=B.C
 refine ⟨_,(jc (qi (js xi (ye xu (by rfl) m_len PySem.boot_len (ja (qc (pv 0) rfl) jb)) qe (j9 _)) (je (jp (jh B.spell hr rfl (ja jf jb) rk))) j3)
   (jc (ju (i:=1) nd rfl (Or.inl rfl) (j5 jb))
   (jc (jdm jad rfl (j1_ rfl m_zip (ja (qc (pv 0) rfl) (ja (qc (pv 0) rfl) jb))) (joh rfl (jcz (yo (i:=2) nd rfl (Or.inl rfl)) (jcz (yo (i:=3) nd rfl (Or.inl rfl)) jlk))) (je (j6 (vd PySem.F.plainAttrs_list PySem.F.slot_list_append PySem.F.type_list_append zh (pv 1) (ja (qa qh (qa qh (pv 2) (jh B.spell hr rfl (ja jf jb) rk)) (jh I.expr hr rfl (ja (pv 3) (ja (qz B.any rfl) jb)) rk)) jb)))))
   (je (jp (qa qh (qa qh (jh B.spell hr rfl (ja jf jb) rk) (jh B.join hr rfl (ja (pv 1) (ja jf jb)) rk)) (jh B.spell hr rfl (ja jf jb) rk))))))),?_⟩
 have hw':Cell.ew (.record l)<=450000:=hw;rw [Vanbka.Expr.depth] at hd;rw [Cell.ew] at hw';rw [jx] at nv;obtain ⟨x,rfl,T⟩:=qp.of nv;obtain ⟨dx,a1,a2,a3,ah,af,ag,dd,h1,h2,h3,h4,sz,h5,h6,h7⟩:=T.ex;have ln:=ji.len _ _ h6
 have lf:=jkv l;have fl0:=Cell.jls l
 have gl0:=Cell.z8 (g:=b ", ") (by decide) l.forms;refine jnt ⟨_,rfl,x,D.CN,dx,_,_,rfl,h1,C.cl,C.no _ (.tail _ (.tail _ (.head _))),rfl,a2,af,rfl,.inl (az.of h3),rfl,_,rfl,qd (λc=>?_) (λc=>?_)⟩
 ·have c:(af.length:Int)=0:=by have:=ot_ c;injection this
  cases l with
  | nil=>rw [Vanbka.Expr.form] at q;exact x9 (NT.lit "(:)") q
  | cons n e l=>rw [vo,List.length_cons] at ln;omega
 have c:¬ (af.length:Int)=0:=λz=>c (dt_ (by rw [z]));have ef:(Vanbka.Expr.record l).form=b "(" ++ glue (b ", ") l.forms ++ b ")":=by
  cases l with
  | nil=>rw [vo,List.length_nil] at ln;omega
  | cons n e l=>rw [Vanbka.Expr.form,Fields.forms]
 have bd:(b "(" ++ glue (b ", ") l.forms ++ b ")").length<=1000000:=by
  rw [<- ef];exact Nat.le_trans (Cell.yd _) (Nat.le_trans hw (by decide))
 rw [ef] at q;refine ⟨by decide,λfl nfl=>?_⟩;have s0:jg H (upd H fl (.lst [])):=jo nfl _
 refine ⟨_,rfl,x,D.CN,dx,_,_,rfl,s0 _ _ h1,C.cl,C.no _ (.tail _ (.head _)),rfl,_,rfl,x,D.CN,dx,_,_,rfl,s0 _ _ h1,C.cl,C.no _ (.tail _ (.tail _ (.head _))),rfl,a1,a2,ah,af,rfl,az.of (s0 _ _ h2),az.of (s0 _ _ h3),λi m σ H'=>m=l.forms.length - i/\i<=l.forms.length/\jg H H'/\(∃ as:List Addr,H' fl=some (.lst (as.map V.ref))/\fl∉as/\wg H' as (l.forms.take i))/\∃ v2 v3,σ=[some (.ref x),some (.ref fl),v2,v3],⟨_,rfl,Nat.zero_le _,s0,⟨[],jd,by simp,.nil⟩,none,none,rfl⟩,?_⟩;rintro i m σ H' ⟨rfl,hi,sm,⟨as,hfl,nas,hp⟩,v2,v3,rfl⟩;have pl:=Paired.len hp
 by_cases am:i < l.forms.length
 ·have hxi:l.forms[i]? = some l.forms[i]:=List.getElem?_eq_getElem am;obtain ⟨nm,e,g1,g2,g3,g4,g5,g6⟩:=ji4 hxi;obtain ⟨vn,en,an,rfl,hn⟩:=jx3 h5 g1;obtain ⟨vp,ep,np⟩:=ji.get _ _ h6 i _ g2;refine .inr ⟨⟨ah,af,_,vp,az.of (sm _ _ h2),az.of (sm _ _ h3),en,ep⟩,λσ' H2=>∃ m',m' < l.forms.length - i/\(m'=l.forms.length - (i + 1)/\i + 1<=l.forms.length/\jg H H2/\(∃ as:List Addr,H2 fl=some (.lst (as.map V.ref))/\fl∉as/\wg H2 as (l.forms.take (i + 1)))/\∃ v2 v3,σ'=[some (.ref x),some (.ref fl),v2,v3]),λ_ _ z=>z,?_⟩;rintro y H2 ⟨Tp,y1,y2,rfl,hT,rfl,q1,q2⟩;have e1:=q1 _ (az.of (sm _ _ h2))
  have e2:=q2 _ (az.of (sm _ _ h3));rw [en] at e1;rw [ep] at e2;cases e1;cases e2;have s1:jg H' (upd H' Tp (.tup [.ref an,vp])):=jo hT _
  have fe:=Cell.yd e;refine ⟨Tp,_,rfl,be.of jd,rfl,_,_,rfl,_,_,rfl,rfl,?_⟩;refine ⟨_,rfl,.inl ⟨rfl,_,az.of (s1 _ _ hfl)⟩,?_⟩;have nt:CN (tOp jhu (tOp jhu (qy 2) (ym z5 [] E (qk (tC (.str ": ")) xh))) (ym (bg (RE D d)) [] E (qk (qy 3) (qk (tC (.int 0)) xh)))) [some (.ref x),some (.ref fl),some (.ref an),some vp] (upd H' Tp (.tup [.ref an,vp])) (nm ++ b ": " ++ e.form) :=
   CN.cat (CN.cat (MT.var rfl (s1 _ _ (sm _ _ hn))).c (NT.lit ": ").c).c (NT.call λH3 s3 Q' q'=>⟨_,rfl,q' _ H3 (jg.refl _) ⟨e,vp,0,rfl,jz.same ((sm.trans s1).trans s3) _ _ np,by omega,by unfold MW;omega,(jlj _ _).symm⟩⟩).c
  refine nt (by rw [List.length_append,List.length_append];show _ + 2 + _<=_;omega) _ (jg.refl _) _ λp H3 s3 n3 e3=>?_;have hfl3:=s3 _ _ (s1 _ _ hfl)
  have pD:p≠fl:=λz=>by rw [z,s1 _ _ hfl] at n3;cases n3
  refine ⟨fl,_,_,rfl,rfl,hfl3,?_,_,by omega,rfl,am,zm (sm.trans (s1.trans s3)) nfl,⟨as ++ [p],?_,?_,?_⟩,_,_,rfl⟩
  ·rw [List.length_map,pl,List.length_take];show min i l.forms.length < 2 ^ 24
   omega
  ·rw [jd,List.map_append];rfl
  ·intro z;rcases List.mem_append.mp z with y | y
   ·exact nas y
   ·exact pD (List.mem_singleton.mp y).symm
  ·rw [List.take_add_one,hxi];exact Paired.snoc (jkh (s1.trans s3) nas hp) (by show upd H3 fl _ p=_;rw [jm pD,g3];exact e3)
 ·have e:i=l.forms.length:=by omega
  subst e;rw [List.take_length] at hp;refine .inl ⟨⟨ah,af,az.of (sm _ _ h2),az.of (sm _ _ h3),.inr (by omega)⟩,?_⟩;exact zy (CN.cat (CN.cat (NT.lit (E:=E) "(").c (NT.join (PcT.of (LT.var rfl (az.of hfl)) hp) (by decide +kernel) (by decide) (jiq (jee bd))).c).c (NT.lit ")").c) (q.on sm) bd
abbrev jd6:PySem.Stmt:=top 116
theorem jiy:jv ["tree", "parameters"] ["tree"] (jj jd6):=fs_
theorem jol(Kn:jr K mg "write_function" ["tree"] jd6)(B:jaa P w K mg base D){d:Nat}(I:vt P w K mg base D d)(GB:ax P w K mg base (5 * d + 6) "write_block" ["statements"] (bg (RB K D d))):ax P w K mg base (5 * d + 6 + 1) "write_function" ["tree"] (bg (RT D (d + 1) j3a)):=by
 refine wk Kn jiy (λ_ _ _ _ h=>by obtain ⟨_,⟨e,v,rfl,⟨own,ps,st,rfl⟩,nv,hd,hw,rfl⟩,_⟩:=h;rfl) λf ac A outer s H vs Q E hr h=>?_;obtain ⟨_,⟨e,v,rfl,⟨own,ps,st,rfl⟩,nv,hd,hw,rfl⟩,q⟩:=h;have nd:=jiy.nd
 have m_len:=B.m_len;have m_list:=B.m_list
 have m_zip:=B.m_zip;have C:=B.C
 refine ⟨_,(jc (ju (i:=1) nd rfl (Or.inl rfl) (jh B.join hr rfl (ja (jc0 jek (qc (pv 0) rfl) (jca qe) jil) (ja jf jb)) rk))
   (je (jp (qa qh (qa qh (qa qh (qa qh (qa qh (jh B.spell hr rfl (ja jf jb) rk) (xp qv (qc (pv 0) rfl) qe (λ_ _=>rfl))) (jh B.spell hr rfl (ja jf jb) rk)) (pv 1)) (jh B.spell hr rfl (ja jf jb) rk)) (jh GB hr rfl (ja (xp qv (qc (pv 0) rfl) qe (λ_ _=>rfl)) jb) rk))))),?_⟩
 have hw':Cell.ew (.fn own ps st)<=450000:=hw;have fb:=Cell.yd (.fn own ps st)
 rw [Vanbka.Expr.form] at fb q;have bd:=Nat.le_trans fb (Nat.le_trans hw (show MW<=1000000 by decide))
 rw [Vanbka.Expr.depth] at hd;rw [Cell.ew] at hw';rw [jx] at nv;obtain ⟨x,rfl,T⟩:=qp.of nv;obtain ⟨ah,ll,hL,LL⟩:=LT.leaves (i:=0) (σ:=[some (.ref x),none]) C T rfl;cases hL with
 | cons hl0 hL =>
  rename_i v0 vr;obtain ⟨as,rfl,hp⟩:=jdz hL;refine yg (NT.join (g:=b ", ") (PcT.of (as:=as) (LT.from (n:=1) LL (by rw [List.length_cons];omega)) hp) (by decide +kernel) (by decide) (jiq (jee (jee bd)))) λp H1 s1 n1 e1=>?_;refine zy (CN.cat (CN.cat (CN.cat (CN.cat (CN.cat (NT.lit "fn ").c (jcw C (T.same s1) rfl rfl).c).c (NT.lit "(").c).c (MT.var rfl e1).c).c (NT.lit ") ").c).c (NT.call (AT.block (j:=0) C (T.same s1) rfl rfl λa us H2 s2 hS hl hN=>⟨st,a,us,rfl,hS,hl,hN,by omega,by unfold MW;omega,rfl⟩)).c) (q.on s1) bd
abbrev jij:PySem.Stmt:=top 112
theorem jnu:jv ["tree", "left", "inside"] ["tree"] (jj jij):=fs_
theorem ju3(Kn:jr K mg "write_reach" ["tree"] jij)(B:jaa P w K mg base D){d:Nat}(I:vt P w K mg base D d)(GL:ax P w K mg base (5 * d + 7) "write_listed" ["parts"] (bg (RL K D d))):ax P w K mg base (5 * d + 7 + 1) "write_reach" ["tree"] (bg (RT D (d + 1) jrd)):=by
 refine wk Kn jnu (λ_ _ _ _ h=>by obtain ⟨_,⟨e,v,rfl,hs,nv,hd,hw,rfl⟩,_⟩:=h;rfl) λf ac A outer s H vs Q E hr h=>?_;obtain ⟨_,⟨e,v,rfl,hs,nv,hd,hw,rfl⟩,q⟩:=h;have nd:=jnu.nd
 have m_len:=B.m_len;have m_list:=B.m_list
 have m_zip:=B.m_zip;have C:=B.C
 refine ⟨_,(jc (ju (i:=1) nd rfl (Or.inl rfl) (jh I.expr hr rfl (ja (xp qv (qc (pv 0) rfl) qe (λ_ _=>rfl)) (ja (qz B.reached rfl) jb)) rk))
   (jc (qi (js xi (qc (pv 0) rfl) jf (j9 _)) (je (jp (qa qh (qa qh (pv 1) (jh B.spell hr rfl (ja jf jb) rk)) (xp qv (qc (pv 0) rfl) qe (λ_ _=>rfl))))) j3)
   (jc (ju (i:=2) nd rfl (Or.inl rfl) (jh GL hr rfl (ja (jc0 jek (qc (pv 0) rfl) (jca qe) jil) jb) rk))
   (jc (qi (js xi (qc (pv 0) rfl) jf (j9 _)) (je (jp (qa qh (qa qh (qa qh (pv 1) (jh B.spell hr rfl (ja jf jb) rk)) (pv 2)) (jh B.spell hr rfl (ja jf jb) rk)))) j3)
   (je (jp (qa qh (qa qh (qa qh (pv 1) (jh B.spell hr rfl (ja jf jb) rk)) (pv 2)) (jh B.spell hr rfl (ja jf jb) rk)))))))),?_⟩
 have hw':Cell.ew e<=450000:=hw;have fb:=Cell.yd e
 rcases hs with ⟨f0,l,rfl⟩ | ⟨l0,i0,rfl⟩ | ⟨r0,y,rfl⟩
 ·rw [Vanbka.Expr.form] at fb q;have bd:=Nat.le_trans fb (Nat.le_trans hw (show MW<=1000000 by decide))
  rw [Vanbka.Expr.depth] at hd;rw [Cell.ew] at hw';rw [jx] at nv;obtain ⟨x,rfl,T⟩:=qp.of nv;refine yg (NT.part (k:=9) (j:=0) C T rfl rfl (by omega) (by unfold MW;omega)) λp H1 s1 n1 e1=>?_;have T1:=T.same s1
  refine jbc (λQ q=>qx C T1 rfl q) (λc=>absurd c (by decide)) λ_=>?_;obtain ⟨af,lp,⟨v0,vr,rfl,_,hN⟩,LP⟩:=LT.parts (i:=0) (σ:=[some (.ref x),some (.ref p),none]) C T1 rfl;rw [List.length_cons] at lp;refine yg (NT.call (AT.of (LT.from (n:=1) LP (by rw [List.length_cons];omega)) λa H2 s2 hS=>⟨l,a,vr,rfl,hS,by omega,ji.same s2 _ _ hN,by omega,by unfold MW;omega,rfl⟩)) λp2 H2 s2 n2 e2=>?_;have T2:=T1.same s2
  refine jbc (λQ q=>qx C T2 rfl q) (λc=>absurd c (by decide)) λ_=>?_;refine zy (CN.cat (CN.cat (CN.cat (MT.var rfl (s2 _ _ e1)).c (NT.lit "(").c).c (MT.var rfl e2).c).c (NT.lit ")").c) (q.on (s1.trans s2)) bd
 ·rw [Vanbka.Expr.form] at fb q;have bd:=Nat.le_trans fb (Nat.le_trans hw (show MW<=1000000 by decide))
  rw [Vanbka.Expr.depth] at hd;rw [Cell.ew] at hw';rw [jx] at nv;obtain ⟨x,rfl,T⟩:=qp.of nv;refine yg (NT.part (k:=9) (j:=0) C T rfl rfl (by omega) (by unfold MW;omega)) λp H1 s1 n1 e1=>?_;have T1:=T.same s1
  refine jbc (λQ q=>qx C T1 rfl q) (λc=>absurd c (by decide)) λ_=>?_;obtain ⟨af,lp,⟨v0,vr,rfl,_,hN⟩,LP⟩:=LT.parts (i:=0) (σ:=[some (.ref x),some (.ref p),none]) C T1 rfl;rw [List.length_cons] at lp;have hN:ji D.CN H1 (y6 (.cons i0 .nil)) vr:=by rw [y6,y6];exact hN
  refine yg (x:=i0.form) (NT.call (AT.of (LT.from (n:=1) LP (by rw [List.length_cons];omega)) λa H2 s2 hS=>⟨.cons i0 .nil,a,vr,rfl,hS,by omega,ji.same s2 _ _ hN,?_,?_,?_⟩)) λp2 H2 s2 n2 e2=>?_
  ·rw [Exprs.depth,Exprs.depth];omega
  ·rw [Cell.esw,Cell.esw];unfold MW;omega
  ·rw [Exprs.forms,Exprs.forms];rfl
  have T2:=T1.same s2;refine jbc (λQ q=>qx C T2 rfl q) (λ_=>?_) λc=>absurd rfl c;refine zy (CN.cat (CN.cat (CN.cat (MT.var rfl (s2 _ _ e1)).c (NT.lit "[").c).c (MT.var rfl e2).c).c (NT.lit "]").c) (q.on (s1.trans s2)) bd
 ·rw [Vanbka.Expr.form] at fb q;have bd:=Nat.le_trans fb (Nat.le_trans hw (show MW<=1000000 by decide))
  rw [Vanbka.Expr.depth] at hd;rw [Cell.ew] at hw';rw [jx] at nv;obtain ⟨x,rfl,T⟩:=qp.of nv;refine yg (NT.part (k:=9) (j:=0) C T rfl rfl (by omega) (by unfold MW;omega)) λp H1 s1 n1 e1=>?_;have T1:=T.same s1
  refine jbc (λQ q=>qx C T1 rfl q) (λ_=>?_) λc=>absurd rfl c;refine zy (CN.cat (CN.cat (MT.var rfl e1).c (NT.lit ".").c).c (jcw C T1 rfl rfl).c) (q.on s1) bd
abbrev jgl:PySem.Stmt:=top 111
theorem jl_:jv ["tree", "condition", "first", "second"] ["tree"] (jj jgl):=fs_
theorem jse(Kn:jr K mg "write_chosen" ["tree"] jgl)(B:jaa P w K mg base D){d:Nat}(I:vt P w K mg base D d):ax P w K mg base (5 * d + 7 + 1) "write_chosen" ["tree"] (bg (RT D (d + 1) jwe)):=by
 refine wk Kn jl_ (λ_ _ _ _ h=>by obtain ⟨_,⟨e,v,rfl,⟨c0,x0,y0,rfl⟩,nv,hd,hw,rfl⟩,_⟩:=h;rfl) λf ac A outer s H vs Q E hr h=>?_;obtain ⟨_,⟨e,v,rfl,⟨c0,x0,y0,rfl⟩,nv,hd,hw,rfl⟩,q⟩:=h;have nd:=jl_.nd
 have m_len:=B.m_len;have m_list:=B.m_list
 have m_zip:=B.m_zip;have C:=B.C
 refine ⟨_,(jc (ju (i:=1) nd rfl (Or.inl rfl) (jh I.expr hr rfl (ja (xp qv (qc (pv 0) rfl) qe (λ_ _=>rfl)) (ja (qz B.chosen rfl) jb)) rk))
   (jc (ju (i:=2) nd rfl (Or.inl rfl) (jh I.expr hr rfl (ja (xp qv (qc (pv 0) rfl) qe (λ_ _=>rfl)) (ja (qz B.chosen rfl) jb)) rk))
   (jc (ju (i:=3) nd rfl (Or.inl rfl) (jh I.expr hr rfl (ja (xp qv (qc (pv 0) rfl) qe (λ_ _=>rfl)) (ja (qz B.chosen rfl) jb)) rk))
   (je (jp (qa qh (qa qh (qa qh (qa qh (pv 1) (jh B.spell hr rfl (ja jf jb) rk)) (pv 2)) (jh B.spell hr rfl (ja jf jb) rk)) (pv 3))))))),?_⟩
 have hw':Cell.ew (.pick c0 x0 y0)<=450000:=hw;have fb:=Cell.yd (.pick c0 x0 y0)
 rw [Vanbka.Expr.form] at fb q;have bd:=Nat.le_trans fb (Nat.le_trans hw (show MW<=1000000 by decide))
 rw [Vanbka.Expr.depth] at hd;rw [Cell.ew] at hw';rw [jx] at nv;obtain ⟨x,rfl,T⟩:=qp.of nv;refine yg (NT.part (k:=1) (j:=0) C T rfl rfl (by omega) (by unfold MW;omega)) λp H1 s1 n1 e1=>?_;refine yg (NT.part (k:=1) (j:=1) C (T.same s1) rfl rfl (by omega) (by unfold MW;omega)) λp2 H2 s2 n2 e2=>?_;refine yg (NT.part (k:=1) (j:=2) C ((T.same s1).same s2) rfl rfl (by omega) (by unfold MW;omega)) λp3 H3 s3 n3 e3=>?_;refine zy (CN.cat (CN.cat (CN.cat (CN.cat (MT.var rfl (s3 _ _ (s2 _ _ e1))).c (NT.lit " ? ").c).c (MT.var rfl (s3 _ _ e2)).c).c (NT.lit " : ").c).c (MT.var rfl e3).c) (q.on ((s1.trans s2).trans s3)) bd
theorem NT.sign{E:XK}{σ:St}{H:Hp}{i:Nat}{x:Addr}{o:Vanbka.Op}{ls:List x8}{ps:List jw}{bs:List (List jw)}(C:zu K mg "Tree" D.CN ["kind", "leaves", "parts", "blocks", "depth", "place", "end"])(T:qp D H x (opK o) ls ps bs)(hi:σ[i]? = some (some (.ref x))):NT (ym jld [] E (qk (ja4 K (qy i) "kind") xh)) σ H o.sign:=λH' s Q q =>
 qx C (T.same s) hi ⟨o,rfl,q⟩
abbrev je6:PySem.Stmt:=top 109
theorem jj9:jv ["tree", "sides", "left", "right"] ["tree"] (jj je6):=fs_
theorem jpo(Kn:jr K mg "write_between" ["tree"] je6)(B:jaa P w K mg base D){d:Nat}(I:vt P w K mg base D d):ax P w K mg base (5 * d + 7 + 1) "write_between" ["tree"] (bg (RT D (d + 1) jy_)):=by
 refine wk Kn jj9 (λ_ _ _ _ h=>by obtain ⟨_,⟨e,v,rfl,⟨o,x0,y0,rfl⟩,nv,hd,hw,rfl⟩,_⟩:=h;rfl) λf ac A outer s H vs Q E hr h=>?_;obtain ⟨_,⟨e,v,rfl,⟨o,x0,y0,rfl⟩,nv,hd,hw,rfl⟩,q⟩:=h;have nd:=jj9.nd
 have m_len:=B.m_len;have m_list:=B.m_list
 have m_zip:=B.m_zip;have C:=B.C
 obtain ⟨sa,ae,mS,dS,tS⟩:=B.sidesLR;refine ⟨_,(jc (ju (i:=1) nd rfl (Or.inl rfl) (jc1 (vc mS rfl) (qc (pv 0) rfl) (λ_ _=>rfl)))
   (jc (ju (i:=2) nd rfl (Or.inl rfl) (jh I.expr hr rfl (ja (xp qv (qc (pv 0) rfl) qe (λ_ _=>rfl)) (ja (xp jkt (pv 1) qe (λ_ _=>rfl)) jb)) rk))
   (jc (ju (i:=3) nd rfl (Or.inl rfl) (jh I.expr hr rfl (ja (xp qv (qc (pv 0) rfl) qe (λ_ _=>rfl)) (ja (xp jkt (pv 1) qe (λ_ _=>rfl)) jb)) rk))
   (je (jp (qa qh (qa qh (qa qh (qa qh (pv 2) (jh B.spell hr rfl (ja jf jb) rk)) (jh B.sign hr rfl (ja (qc (pv 0) rfl) jb) rk)) (jh B.spell hr rfl (ja jf jb) rk)) (pv 3))))))),?_⟩
 have hw':Cell.ew (.bin o x0 y0)<=450000:=hw;have fb:=Cell.yd (.bin o x0 y0)
 rw [Vanbka.Expr.form] at fb q;have bd:=Nat.le_trans fb (Nat.le_trans hw (show MW<=1000000 by decide))
 rw [Vanbka.Expr.depth] at hd;rw [Cell.ew] at hw';rw [jx] at nv;obtain ⟨x,rfl,T⟩:=qp.of nv;obtain ⟨tt,ev,sq⟩:=tS o;obtain ⟨dx,a1,a2,a3,ah,af,ag,dd,g1,_⟩:=id T.ex;refine ⟨_,rfl,x,D.CN,dx,_,_,rfl,g1,C.cl,C.no _ (.head _),rfl,sa,ae,.inr (opK o),.ref tt,rfl,dS,rfl,ev,?_⟩;refine yg (NT.call (AT.part (tk:=tOp (jwz K) (qy 1) (tC (.int 1))) (k:=o.left) (j:=0) C T rfl rfl (by omega) (by unfold MW;omega) λH' s Q q=>⟨_,rfl,tt,_,_,_,rfl,rfl,sq H',rfl,q⟩)) λp H1 s1 n1 e1=>?_;refine yg (NT.call (AT.part (tk:=tOp (jwz K) (qy 1) (tC (.int 2))) (k:=o.right) (j:=1) C (T.same s1) rfl rfl (by omega) (by unfold MW;omega) λH' s Q q=>⟨_,rfl,tt,_,_,_,rfl,rfl,sq H',rfl,q⟩)) λp2 H2 s2 n2 e2=>?_;refine zy (CN.cat (CN.cat (CN.cat (CN.cat (MT.var rfl (s2 _ _ e1)).c (NT.lit " ").c).c (NT.sign C ((T.same s1).same s2) rfl).c).c (NT.lit " ").c).c (MT.var rfl e2).c) (q.on (s1.trans s2)) bd
def jhc:Vanbka.Expr->Prop
 | .minus _ | .not _ | .bin _ _ _ | .pick _ _ _ | .call _ _ | .index _ _ | .field _ _=>False
 | _=>True
theorem j2p{n:Nat}(h:Cell.nw n<=1000000):n.log2 < 1920:=by
 have:=Cell.jom h;by_cases z:n=0
 ·subst z;decide
 ·rw [Nat.log2_lt z];exact Nat.lt_of_lt_of_le this (Nat.le_trans (show 10 ^ 30<=2 ^ 128 by decide) (Nat.pow_le_pow_right (by decide) (by decide)))
theorem NT.number{E:XK}{t:TA}{σ:St}{H:Hp}{z:Int}(h:AT t σ H λvs _=>vs=[.int z])(hz:Cell.nw z.natAbs<=MW):NT (ym jdl [] E t) σ H (shownInt z):=λH' s Q q =>
 h H' s _ λvs H2 s2 r=>⟨z,by rw [r];rfl,j2p (Nat.le_trans hz (by decide)),by have:=Cell.jir z;have:Cell.nw z.natAbs<=450000:=hz;omega,q.on s2⟩
theorem NT.quoted{E:XK}{t:TA}{σ:St}{H:Hp}{u:Bytes}(h:AT t σ H λvs H2=>∃ a,vs=[.ref a]/\H2 a=some (.lst (vb u)))(hz:u.length<=300000):NT (ym (jdk K) [] E t) σ H (shownQuoted u):=λH' s Q q =>
 h H' s _ λvs H2 s2 ⟨a,r,e⟩=>⟨a,u,by rw [r];rfl,az.of e,hz,q.on s2⟩
theorem NT.spellV{E:XK}{σ:St}{H:Hp}{i:Nat}{z:Str}(hi:σ[i]? = some (some (.str z)))(u:Bytes)(e:z=xo u:=by decide +kernel)(hl:u.length<=1000000:=by decide +kernel):NT (ym z5 [] E (qk (qy i) xh)) σ H u:=by
 subst e;exact λH' s Q q=>⟨_,hi,u,rfl,hl,q⟩
theorem jup(p:Vanbka.Prim):jdh p=xo p.word:=by cases p <;> decide +kernel
abbrev jgj:PySem.Stmt:=top 114
theorem jl6:jv ["tree", "kind"] ["tree"] (jj jgj):=fs_
theorem jsb(Kn:jr K mg "write_simple" ["tree"] jgj)(B:jaa P w K mg base D){d:Nat}(I:vt P w K mg base D d)(GL:ax P w K mg base (5 * d + 7) "write_listed" ["parts"] (bg (RL K D d)))(GR:ax P w K mg base (5 * d + 7) "write_record" ["tree"] (bg (RT D (d + 1) jpf)))(GF:ax P w K mg base (5 * d + 7) "write_function" ["tree"] (bg (RT D (d + 1) j3a))):ax P w K mg base (5 * d + 7 + 1) "write_simple" ["tree"] (bg (RT D (d + 1) jhc)):=by
 refine wk Kn jl6 (λ_ _ _ _ h=>by obtain ⟨_,⟨e,v,rfl,hs,nv,hd,hw,rfl⟩,_⟩:=h;rfl) λf ac A outer s H vs Q E hr h=>?_;obtain ⟨_,⟨e,v,rfl,hs,nv,hd,hw,rfl⟩,q⟩:=h;have nd:=jl6.nd
 have m_len:=B.m_len;have m_list:=B.m_list
 have m_zip:=B.m_zip;have C:=B.C
 refine ⟨_,(jc (ju (i:=1) nd rfl (Or.inl rfl) (qc (pv 0) rfl))
   (jc (qi (js xi (pv 1) jf (j9 _)) (je (jp (jh B.number hr rfl (ja (xp qv (qc (pv 0) rfl) qe (λ_ _=>rfl)) jb) rk))) j3)
   (jc (qi (js xi (pv 1) jf (j9 _)) (je (jp (jh B.quoted hr rfl (ja (xp qv (qc (pv 0) rfl) qe (λ_ _=>rfl)) jb) rk))) j3)
   (jc (qi (js xi (pv 1) jf (j9 _)) (je (jp (je_ jia rfl m_list (by decide +kernel) (ja (xp qv (qc (pv 0) rfl) qe (λ_ _=>rfl)) jb)))) j3)
   (jc (qi (js zn (pv 1) (jbw (ja jf (ja jf (ja jf jb)))) rfl) (je (jp (jh B.spell hr rfl (ja (pv 1) jb) rk))) j3)
   (jc (qi (js xi (pv 1) jf (j9 _)) (je (jp (qa qh (qa qh (jh B.spell hr rfl (ja jf jb) rk) (jh GL hr rfl (ja (qc (pv 0) rfl) jb) rk)) (jh B.spell hr rfl (ja jf jb) rk)))) j3)
   (jc (qi (js xi (pv 1) jf (j9 _)) (je (jp (jh GR hr rfl (ja (pv 0) jb) rk))) j3)
   (jc (qi (js xi (pv 1) jf (j9 _)) (je (jp (jh GF hr rfl (ja (pv 0) jb) rk))) j3)
   (je (jp (qa qh (qa qh (jh B.spell hr rfl (ja (qa jio (pv 1) jf) jb) rk) (jh GL hr rfl (ja (qc (pv 0) rfl) jb) rk)) (jh B.spell hr rfl (ja jf jb) rk)))))))))))),?_⟩
 have hw':Cell.ew e<=450000:=hw;have fb:=Cell.yd e
 cases e with
 | minus _=>exact hs.elim
 | not _=>exact hs.elim
 | bin _ _ _=>exact hs.elim
 | pick _ _ _=>exact hs.elim
 | call _ _=>exact hs.elim
 | index _ _=>exact hs.elim
 | field _ _=>exact hs.elim
 | num n =>
  rw [Vanbka.Expr.form] at q;rw [Cell.ew] at hw';rw [jx] at nv;obtain ⟨x,rfl,T⟩:=qp.of nv;have e:shownInt (n:Int)=shownNat n:=by
   unfold shownInt;rw [if_neg (by omega)];rfl
  rw [<- e] at q;refine qx C T rfl (jbb rfl rfl (x9 (NT.number (AT.leaf (j:=0) C T rfl rfl λv H2 s2 hv=>?_) (by show Cell.nw n<=MW;unfold MW;omega)) q));rw [show v=_ from hv]
 | quoted u =>
  rw [Vanbka.Expr.form] at q;rw [Cell.ew] at hw';rw [jx] at nv;obtain ⟨x,rfl,T⟩:=qp.of nv;refine qx C T rfl (j7 rfl (by decide) (jbb rfl rfl (x9 (NT.quoted (AT.leaf (j:=0) C T rfl rfl λv H2 s2 hv=>?_) (by omega)) q)));obtain ⟨a,rfl,e⟩:=hv;exact ⟨a,rfl,e⟩
 | name u =>
  rw [Vanbka.Expr.form] at q;rw [Cell.ew] at hw';rw [jx] at nv;obtain ⟨x,rfl,T⟩:=qp.of nv;refine qx C T rfl (j7 rfl (by decide) (j7 rfl (by decide) (jbb rfl rfl ?_)));refine jni (j:=0) C T rfl rfl λv hv=>?_;obtain ⟨a,rfl,e⟩:=hv;exact ⟨a,_,rfl,.inl (az.of e),λl nl=>q l _ (jo nl _) nl jd⟩
 | truth k =>
  rw [Vanbka.Expr.form] at q;rw [jx] at nv;obtain ⟨x,rfl,T⟩:=qp.of nv;cases k with
  | true=>exact qx C T rfl (j7 rfl (by decide) (j7 rfl (by decide) (j7 rfl (by decide) (wq rfl ["yes", "no", "none"] (by decide) λH1 s1=>x9 (NT.spellV rfl (b "yes")) (q.on s1)))))
  | false=>exact qx C T rfl (j7 rfl (by decide) (j7 rfl (by decide) (j7 rfl (by decide) (wq rfl ["yes", "no", "none"] (by decide) λH1 s1=>x9 (NT.spellV rfl (b "no")) (q.on s1)))))
 | nothing =>
  rw [Vanbka.Expr.form] at q;rw [jx] at nv;obtain ⟨x,rfl,T⟩:=qp.of nv;exact qx C T rfl (j7 rfl (by decide) (j7 rfl (by decide) (j7 rfl (by decide) (wq rfl ["yes", "no", "none"] (by decide) λH1 s1=>x9 (NT.spellV rfl (b "none")) (q.on s1)))))
 | list l =>
  rw [Vanbka.Expr.form] at fb q;have bd:=Nat.le_trans fb (Nat.le_trans hw (show MW<=1000000 by decide))
  rw [Vanbka.Expr.depth] at hd;rw [Cell.ew] at hw';rw [jx] at nv;obtain ⟨x,rfl,T⟩:=qp.of nv;refine qx C T rfl (j7 rfl (by decide) (j7 rfl (by decide) (j7 rfl (by decide) (yh rfl ["yes", "no", "none"] (by decide) λH1 s1=>jbb rfl rfl ?_))));obtain ⟨af,lp,hN,LP⟩:=LT.parts (i:=0) (σ:=[some (.ref x),some (.str "list")]) C (T.same s1) rfl;refine zy (CN.cat (CN.cat (NT.lit "[").c (NT.call (AT.of LP λa H2 s2 hS=>⟨l,a,af,rfl,hS,lp,ji.same s2 _ _ hN,by omega,by unfold MW;omega,rfl⟩)).c).c (NT.lit "]").c) (q.on s1) bd
 | record l =>
  rw [jx] at nv;obtain ⟨x,rfl,T⟩:=qp.of nv;refine qx C T rfl (j7 rfl (by decide) (j7 rfl (by decide) (j7 rfl (by decide) (yh rfl ["yes", "no", "none"] (by decide) λH1 s1=>j7 rfl (by decide) (jbb rfl rfl ?_)))));exact x9 (NT.call (AT.tree rfl λH2 s2=>⟨.record l,_,rfl,⟨l,rfl⟩,by rw [jx];exact jz.same (s1.trans s2) _ _ nv,hd,hw,rfl⟩)) (q.on s1)
 | fn o p st =>
  rw [jx] at nv;obtain ⟨x,rfl,T⟩:=qp.of nv;refine qx C T rfl (j7 rfl (by decide) (j7 rfl (by decide) (j7 rfl (by decide) (yh rfl ["yes", "no", "none"] (by decide) λH1 s1=>j7 rfl (by decide) (j7 rfl (by decide) (jbb rfl rfl ?_))))));exact x9 (NT.call (AT.tree rfl λH2 s2=>⟨.fn o p st,_,rfl,⟨o,p,st,rfl⟩,by rw [jx];exact jz.same (s1.trans s2) _ _ nv,hd,hw,rfl⟩)) (q.on s1)
 | prim p l =>
  rw [Vanbka.Expr.form] at fb q;have bd:=Nat.le_trans fb (Nat.le_trans hw (show MW<=1000000 by decide))
  rw [Vanbka.Expr.depth] at hd;rw [Cell.ew] at hw';rw [jx] at nv;obtain ⟨x,rfl,T⟩:=qp.of nv;have pw:=Cell.joe p
  refine qx C T rfl (j7 rfl (by cases p <;> decide) (j7 rfl (by cases p <;> decide) (j7 rfl (by cases p <;> decide) (yh rfl ["yes", "no", "none"] (by cases p <;> decide) λH1 s1=>j7 rfl (by cases p <;> decide) (j7 rfl (by cases p <;> decide) (j7 rfl (by cases p <;> decide) ?_))))));obtain ⟨af,lp,hN,LP⟩:=LT.parts (i:=0) (σ:=[some (.ref x),some (.str (jdh p))]) C (T.same s1) rfl;refine zy (CN.cat (CN.cat (NT.spellAdd jj0 (jup p) (v:=b "(") (h1:=by omega)).c (NT.call (AT.of LP λa H2 s2 hS=>⟨l,a,af,rfl,hS,lp,ji.same s2 _ _ hN,by omega,by unfold MW;omega,rfl⟩)).c).c (NT.lit ")").c) (q.on s1) bd
theorem yk{sa:Addr}{ae:List (Key×V)}{t rest:TS}{Dn:jbk}{σ:St}{H:Hp}{i:Nat}{z:Str}(hv:σ[i]? = some (some (.str z)))(dS:jct w K sa ae) (tS:∀ z:Str,match vi.lookup z with
 | none=>zf ae (.inr z)=none
 | some i=>∃ t u v,zf ae (.inr z)=some (.ref t)/\∀ H,be K H t [.int i,u,v]) (yes:(vi.lookup z).isSome=true->t { Dn with nx:=rest Dn } σ H) (no:(vi.lookup z).isSome=false->rest Dn σ H):jci (jgf (jc8 (tOp (jw0 w K false) (qy i) (tC (.ref sa)))) t jd3) rest Dn σ H:=by
 have h:=tS z;refine ⟨_,hv,sa,ae,.inr z,rfl,dS,rfl,_,rfl,?_⟩;cases e:vi.lookup z with
 | none =>
  rw [e] at h no;rw [h];exact qd (λc=>absurd c (by decide)) (λ_=>no rfl)
 | some j =>
  rw [e] at h yes;obtain ⟨tt,u,v,ev,sq⟩:=h;rw [ev];exact qd (λ_=>yes rfl) (λc=>absurd rfl c)
theorem jt3(o:Vanbka.Op):(vi.lookup (opK o)).isSome=true:=by cases o <;> decide
theorem jrr(p:Vanbka.Prim):(vi.lookup (jdh p)).isSome=false:=by cases p <;> decide
theorem zo{z:Str}{p:Prop}(h:(vi.lookup z).isSome=true)(n:(vi.lookup z).isSome=false):p:=by rw [h] at n;cases n
abbrev jkb:PySem.Stmt:=top 108
theorem jqh:jv ["tree", "kind"] ["tree"] (jj jkb):=fs_
theorem jxv(Kn:jr K mg "write_bare" ["tree"] jkb)(B:jaa P w K mg base D){d:Nat}(I:vt P w K mg base D d)(GBe:ax P w K mg base (5 * d + 8) "write_between" ["tree"] (bg (RT D (d + 1) jy_)))(GC:ax P w K mg base (5 * d + 8) "write_chosen" ["tree"] (bg (RT D (d + 1) jwe)))(GRe:ax P w K mg base (5 * d + 8) "write_reach" ["tree"] (bg (RT D (d + 1) jrd)))(GS:ax P w K mg base (5 * d + 8) "write_simple" ["tree"] (bg (RT D (d + 1) jhc))):ax P w K mg base (5 * d + 8 + 1) "write_bare" ["tree"] (bg (RT D (d + 1) j3d)):=by
 refine wk Kn jqh (λ_ _ _ _ h=>by obtain ⟨_,⟨e,v,rfl,_,nv,hd,hw,rfl⟩,_⟩:=h;rfl) λf ac A outer s H vs Q E hr h=>?_;obtain ⟨_,⟨e,v,rfl,_,nv,hd,hw,rfl⟩,q⟩:=h;have nd:=jqh.nd
 have m_len:=B.m_len;have m_list:=B.m_list
 have m_zip:=B.m_zip;have C:=B.C
 obtain ⟨sa,ae,mS,dS,tS⟩:=B.sides;refine ⟨_,(jc (ju (i:=1) nd rfl (Or.inl rfl) (qc (pv 0) rfl))
   (jc (qi (js jhz (pv 1) (vc mS rfl) rfl) (je (jp (jh GBe hr rfl (ja (pv 0) jb) rk))) j3)
   (jc (qi (js xi (pv 1) jf (j9 _)) (je (jp (jh GC hr rfl (ja (pv 0) jb) rk))) j3)
   (jc (qi (js xi (pv 1) jf (j9 _)) (je (jp (qa qh (jh B.spell hr rfl (ja jf jb) rk) (jh I.expr hr rfl (ja (xp qv (qc (pv 0) rfl) qe (λ_ _=>rfl)) (ja (qz B.denied rfl) jb)) rk)))) j3)
   (jc (qi (js xi (pv 1) jf (j9 _)) (je (jp (qa qh (jh B.spell hr rfl (ja jf jb) rk) (jh I.expr hr rfl (ja (xp qv (qc (pv 0) rfl) qe (λ_ _=>rfl)) (ja (qz B.reached rfl) jb)) rk)))) j3)
   (jc (qi (js zn (pv 1) (jbw (ja jf (ja jf (ja jf jb)))) rfl) (je (jp (jh GRe hr rfl (ja (pv 0) jb) rk))) j3)
   (je (jp (jh GS hr rfl (ja (pv 0) jb) rk))))))))),?_⟩
 have hw':Cell.ew e<=450000:=hw;have fb:=Cell.yd e
 have simp_:∀ H1,jg H H1->jhc e->NT (ym (bg (RT D (d + 1) jhc)) [] E (qk (qy 0) xh)) [some v,some (.str (jm9 e))] H1 e.form:=λH1 s1 hs=>NT.call (AT.tree rfl λH2 s2=>⟨e,v,rfl,hs,jz.same (s1.trans s2) _ _ nv,hd,hw,rfl⟩);cases e with
 | bin o x0 y0 =>
  have nv':=nv;rw [jx] at nv;obtain ⟨x,rfl,T⟩:=qp.of nv;refine qx C T rfl (yk rfl dS tS (λ_=>?_) λn=>zo (jt3 o) n);exact x9 (NT.call (AT.tree rfl λH2 s2=>⟨_,_,rfl,⟨o,x0,y0,rfl⟩,jz.same s2 _ _ nv',hd,hw,rfl⟩)) q
 | pick c0 x0 y0 =>
  have nv':=nv;rw [jx] at nv;obtain ⟨x,rfl,T⟩:=qp.of nv;refine qx C T rfl (yk rfl dS tS (λn=>zo n (by decide)) λ_=>jbb rfl rfl ?_);exact x9 (NT.call (AT.tree rfl λH2 s2=>⟨_,_,rfl,⟨c0,x0,y0,rfl⟩,jz.same s2 _ _ nv',hd,hw,rfl⟩)) q
 | not e =>
  rw [Vanbka.Expr.form] at fb q;have bd:=Nat.le_trans fb (Nat.le_trans hw (show MW<=1000000 by decide))
  rw [Vanbka.Expr.depth] at hd;rw [Cell.ew] at hw';rw [jx] at nv;obtain ⟨x,rfl,T⟩:=qp.of nv;refine qx C T rfl (yk rfl dS tS (λn=>zo n (by decide)) λ_=>j7 rfl (by decide) (jbb rfl rfl ?_));exact zy (CN.cat (NT.lit "not ").c (NT.part (k:=4) (j:=0) C T rfl rfl (by omega) (by unfold MW;omega)).c) q bd
 | minus e =>
  rw [Vanbka.Expr.form] at fb q;have bd:=Nat.le_trans fb (Nat.le_trans hw (show MW<=1000000 by decide))
  rw [Vanbka.Expr.depth] at hd;rw [Cell.ew] at hw';rw [jx] at nv;obtain ⟨x,rfl,T⟩:=qp.of nv;refine qx C T rfl (yk rfl dS tS (λn=>zo n (by decide)) λ_=>j7 rfl (by decide) (j7 rfl (by decide) (jbb rfl rfl ?_)));exact zy (CN.cat (NT.lit "-").c (NT.part (k:=9) (j:=0) C T rfl rfl (by omega) (by unfold MW;omega)).c) q bd
 | call f0 l =>
  have nv':=nv;rw [jx] at nv;obtain ⟨x,rfl,T⟩:=qp.of nv;refine qx C T rfl (yk rfl dS tS (λn=>zo n (by decide)) λ_=>j7 rfl (by decide) (j7 rfl (by decide) (j7 rfl (by decide) (wq rfl ["call", "element", "field"] (by decide) λH1 s1=>?_))));exact x9 (NT.call (AT.tree rfl λH2 s2=>⟨_,_,rfl,.inl ⟨_,_,rfl⟩,jz.same (s1.trans s2) _ _ nv',hd,hw,rfl⟩)) (q.on s1)
 | index l0 i0 =>
  have nv':=nv;rw [jx] at nv;obtain ⟨x,rfl,T⟩:=qp.of nv;refine qx C T rfl (yk rfl dS tS (λn=>zo n (by decide)) λ_=>j7 rfl (by decide) (j7 rfl (by decide) (j7 rfl (by decide) (wq rfl ["call", "element", "field"] (by decide) λH1 s1=>?_))));exact x9 (NT.call (AT.tree rfl λH2 s2=>⟨_,_,rfl,.inr (.inl ⟨_,_,rfl⟩),jz.same (s1.trans s2) _ _ nv',hd,hw,rfl⟩)) (q.on s1)
 | field r0 y0 =>
  have nv':=nv;rw [jx] at nv;obtain ⟨x,rfl,T⟩:=qp.of nv;refine qx C T rfl (yk rfl dS tS (λn=>zo n (by decide)) λ_=>j7 rfl (by decide) (j7 rfl (by decide) (j7 rfl (by decide) (wq rfl ["call", "element", "field"] (by decide) λH1 s1=>?_))));exact x9 (NT.call (AT.tree rfl λH2 s2=>⟨_,_,rfl,.inr (.inr ⟨_,_,rfl⟩),jz.same (s1.trans s2) _ _ nv',hd,hw,rfl⟩)) (q.on s1)
 | num n =>
  rw [jx] at nv;obtain ⟨x,rfl,T⟩:=qp.of nv;exact qx C T rfl (yk rfl dS tS (λn=>zo n (by decide)) λ_=>j7 rfl (by decide) (j7 rfl (by decide) (j7 rfl (by decide) (yh rfl ["call", "element", "field"] (by decide) λH1 s1=>x9 (simp_ H1 s1 trivial) (q.on s1)))))
 | quoted u =>
  rw [jx] at nv;obtain ⟨x,rfl,T⟩:=qp.of nv;exact qx C T rfl (yk rfl dS tS (λn=>zo n (by decide)) λ_=>j7 rfl (by decide) (j7 rfl (by decide) (j7 rfl (by decide) (yh rfl ["call", "element", "field"] (by decide) λH1 s1=>x9 (simp_ H1 s1 trivial) (q.on s1)))))
 | name u =>
  rw [jx] at nv;obtain ⟨x,rfl,T⟩:=qp.of nv;exact qx C T rfl (yk rfl dS tS (λn=>zo n (by decide)) λ_=>j7 rfl (by decide) (j7 rfl (by decide) (j7 rfl (by decide) (yh rfl ["call", "element", "field"] (by decide) λH1 s1=>x9 (simp_ H1 s1 trivial) (q.on s1)))))
 | nothing =>
  rw [jx] at nv;obtain ⟨x,rfl,T⟩:=qp.of nv;exact qx C T rfl (yk rfl dS tS (λn=>zo n (by decide)) λ_=>j7 rfl (by decide) (j7 rfl (by decide) (j7 rfl (by decide) (yh rfl ["call", "element", "field"] (by decide) λH1 s1=>x9 (simp_ H1 s1 trivial) (q.on s1)))))
 | list l =>
  rw [jx] at nv;obtain ⟨x,rfl,T⟩:=qp.of nv;exact qx C T rfl (yk rfl dS tS (λn=>zo n (by decide)) λ_=>j7 rfl (by decide) (j7 rfl (by decide) (j7 rfl (by decide) (yh rfl ["call", "element", "field"] (by decide) λH1 s1=>x9 (simp_ H1 s1 trivial) (q.on s1)))))
 | record l =>
  rw [jx] at nv;obtain ⟨x,rfl,T⟩:=qp.of nv;exact qx C T rfl (yk rfl dS tS (λn=>zo n (by decide)) λ_=>j7 rfl (by decide) (j7 rfl (by decide) (j7 rfl (by decide) (yh rfl ["call", "element", "field"] (by decide) λH1 s1=>x9 (simp_ H1 s1 trivial) (q.on s1)))))
 | fn o p st =>
  rw [jx] at nv;obtain ⟨x,rfl,T⟩:=qp.of nv;exact qx C T rfl (yk rfl dS tS (λn=>zo n (by decide)) λ_=>j7 rfl (by decide) (j7 rfl (by decide) (j7 rfl (by decide) (yh rfl ["call", "element", "field"] (by decide) λH1 s1=>x9 (simp_ H1 s1 trivial) (q.on s1)))))
 | truth k =>
  rw [jx] at nv;obtain ⟨x,rfl,T⟩:=qp.of nv;cases k with
  | true=>exact qx C T rfl (yk rfl dS tS (λn=>zo n (by decide)) λ_=>j7 rfl (by decide) (j7 rfl (by decide) (j7 rfl (by decide) (yh rfl ["call", "element", "field"] (by decide) λH1 s1=>x9 (simp_ H1 s1 trivial) (q.on s1)))))
  | false=>exact qx C T rfl (yk rfl dS tS (λn=>zo n (by decide)) λ_=>j7 rfl (by decide) (j7 rfl (by decide) (j7 rfl (by decide) (yh rfl ["call", "element", "field"] (by decide) λH1 s1=>x9 (simp_ H1 s1 trivial) (q.on s1)))))
 | prim p l =>
  rw [jx] at nv;obtain ⟨x,rfl,T⟩:=qp.of nv;exact qx C T rfl (yk rfl dS tS (λn=>zo n (jrr p)) λ_=>j7 rfl (by cases p <;> decide) (j7 rfl (by cases p <;> decide) (j7 rfl (by cases p <;> decide) (yh rfl ["call", "element", "field"] (by cases p <;> decide) λH1 s1=>x9 (simp_ H1 s1 trivial) (q.on s1)))))
theorem ju9(e:Vanbka.Expr):∃ ls ps bs,jx e = .mk (jm9 e) ls ps bs:=by
 cases e <;> (rw [jx];exact ⟨_,_,_,rfl⟩)
abbrev jka:PySem.Stmt:=top 107
theorem jqg:jv ["tree", "wanted", "written"] ["tree", "wanted"] (jj jka):=fs_
theorem jxu(Kn:jr K mg "write_expression" ["tree", "wanted"] jka)(B:jaa P w K mg base D){d:Nat}(I:vt P w K mg base D d)(GBa:ax P w K mg base (5 * d + 9) "write_bare" ["tree"] (bg (RT D (d + 1) j3d))):ax P w K mg base (5 * d + 9 + 1) "write_expression" ["tree", "wanted"] (bg (RE D (d + 1))):=by
 refine wk Kn jqg (λ_ _ _ _ h=>by obtain ⟨_,⟨e,v,k,rfl,nv,hd,hw,rfl⟩,_⟩:=h;rfl) λf ac A outer s H vs Q E hr h=>?_;obtain ⟨_,⟨e,v,k,rfl,nv,hd,hw,rfl⟩,q⟩:=h;have nd:=jqg.nd
 have m_len:=B.m_len;have m_list:=B.m_list
 have m_zip:=B.m_zip;have C:=B.C
 refine ⟨_,(jc (ju (i:=2) nd rfl (Or.inl rfl) (jh GBa hr rfl (ja (pv 0) jb) rk))
   (jc (qi (js jec (pv 1) (jh B.strength hr rfl (ja (qc (pv 0) rfl) jb) rk) (j9 _)) (je (jp (qa qh (qa qh (jh B.spell hr rfl (ja jf jb) rk) (pv 2)) (jh B.spell hr rfl (ja jf jb) rk)))) j3)
   (je (jp (pv 2))))),?_⟩
 have hw':Cell.ew e<=450000:=hw;have fb:=Cell.yd e
 obtain ⟨ls,ps,bs,ek⟩:=ju9 e;have nv':=nv
 rw [ek] at nv;obtain ⟨x,rfl,T⟩:=qp.of nv;refine yg (NT.call (AT.tree rfl λH2 s2=>⟨e,_,rfl,trivial,jz.same s2 _ _ nv',hd,hw,rfl⟩)) λp H1 s1 n1 e1=>?_;have sk:=jm0 e
 refine jnt ⟨_,rfl,qx C (T.same s1) rfl ⟨_,rfl,_,_,rfl,rfl,_,rfl,qd (λc=>?_) (λc=>?_)⟩⟩
 ·have c:=ot_ c;rw [sk] at c;have ep:put k e e.form=b "(" ++ e.form ++ b ")":=by unfold put;rw [if_pos (by omega)]
  have bd:(b "(" ++ e.form ++ b ")").length<=1000000:=by
   rw [List.length_append,List.length_append];show 1 + _ + 1<=_
   omega
  rw [ep] at q;exact zy (CN.cat (CN.cat (NT.lit "(").c (MT.var rfl e1).c).c (NT.lit ")").c) (q.on s1) bd
 ·have c:¬ (yc (jm9 e) < (k:Int)):=λz=>c (dt_ z);rw [sk] at c;have ep:put k e e.form=e.form:=by unfold put;rw [if_neg (by omega)]
  rw [ep] at q;exact ⟨_,rfl,q p H1 s1 n1 e1⟩
theorem j1k{te:TE}{Dn:jbk}{σ:St}{H:Hp}{x:Bytes}{i:Nat}(h:NT te σ H x)(k:∀ a H1,jg H H1->H a=none->H1 a=some (.lst (vb x))->Dn.nx (σ.set i (some (.ref a))) H1):ji8 te (ja7 i) Dn σ H :=
 h H (jg.refl H) _ λa H1 s n e=>k a H1 s n e
theorem jg3{σ:St}{H:Hp}{i:Nat}{x:Addr}{z:Str}{ls:List x8}{ps:List jw}{bs:List (List jw)}(C:zu K mg "Tree" D.CN ["kind", "leaves", "parts", "blocks", "depth", "place", "end"])(T:qp D H x z ls ps bs)(hi:σ[i]? = some (some (.ref x))):∀ H',jg H H'->∀ Q:VK,Q (.str z) H'->(ja4 K (qy i) "kind") σ H' Q:=λ_ s _ q=>qx C (T.same s) hi q
theorem PcT.blocks{d:Nat}{σ:St}{H:Hp}{ti:TE}{j:Nat}{ag:List V}{ss:List Stmts}(LB:LT K ti σ H ag)(hB:qr D.CN H (ss.map xk) ag)(sz:ss.length<=1000)(hd:∀ s∈ss,s.depth<=d)(hw:∀ s∈ss,Cell.ssw s<=MW)(hws:∀ v,zw ((zw σ [j]).set j (some v)) [j]=zw σ [j])(hj:∀ v,((zw σ [j]).set j (some v))[j]? = some (some v)) :
  PcT K (tLc (jis K ti) (ja7 j) jlc (ym (bg (RB K D d)) [] (λ_ _ _=>False) (qk (qy j) xh)) [j]) σ H (ss.map λs=>Vanbka.shownBlock s.forms):=by
 have ln:=qr.len _ _ hB;rw [List.length_map] at ln;refine PcT.lc LB (by rw [List.length_map];omega) (by rw [List.length_map];omega) (λi v x hv hx=>?_) hws;rw [List.getElem?_map] at hx;cases e:ss[i]? with
 | none=>rw [e] at hx;cases hx
 | some st =>
  rw [e] at hx;cases hx;have hm:st∈ss:=List.mem_of_getElem? e
  obtain ⟨a,ws,ev,ha,lw,nv⟩:=qr.get _ ag hB i (xk st) (by rw [List.getElem?_map,e];rfl);rw [hv] at ev;cases ev;exact NT.call (AT.tree (hj _) λH2 s2=>⟨st,a,ws,rfl,az.of (s2 _ _ ha),lw,ji.same s2 _ _ nv,hd st hm,hw st hm,rfl⟩)
theorem PcT.numbers{σ:St}{H:Hp}{ti:TE}{j:Nat}{zs:List Int}(LB:LT K ti σ H (zs.map V.int))(sz:zs.length<=1000)(hw:∀ z∈zs,Cell.nw z.natAbs<=MW)(hws:∀ v,zw ((zw σ [j]).set j (some v)) [j]=zw σ [j])(hj:∀ v,((zw σ [j]).set j (some v))[j]? = some (some v)) :
  PcT K (tLc (jis K ti) (ja7 j) jlc (ym jdl [] (λ_ _ _=>False) (qk (qy j) xh)) [j]) σ H (zs.map shownInt):=by
 refine PcT.lc LB (by rw [List.length_map,List.length_map]) (by rw [List.length_map];omega) (λi v x hv hx=>?_) hws;rw [List.getElem?_map] at hx hv;cases e:zs[i]? with
 | none=>rw [e] at hx;cases hx
 | some z =>
  rw [e] at hx hv;cases hx;cases hv;exact NT.number (AT.tree (hj _) λH2 s2=>rfl) (hw z (List.mem_of_getElem? e))
theorem PcT.quoteds{σ:St}{H:Hp}{ti:TE}{j:Nat}{as:List Addr}{us:List Bytes}(LB:LT K ti σ H (as.map V.ref))(hp:wg H as us)(sz:us.length<=1000)(hw:∀ z∈us,z.length<=300000)(hws:∀ v,zw ((zw σ [j]).set j (some v)) [j]=zw σ [j])(hj:∀ v,((zw σ [j]).set j (some v))[j]? = some (some v)) :
  PcT K (tLc (jis K ti) (ja7 j) jlc (ym (jdk K) [] (λ_ _ _=>False) (qk (qy j) xh)) [j]) σ H (us.map shownQuoted):=by
 have pl:=Paired.len hp;refine PcT.lc LB (by rw [List.length_map,List.length_map];exact pl) (by rw [List.length_map];omega) (λi v x hv hx=>?_) hws;rw [List.getElem?_map] at hx hv;cases e:us[i]? with
 | none=>rw [e] at hx;cases hx
 | some z =>
  rw [e] at hx;cases hx;obtain ⟨a,ea,ha⟩:=Paired.get hp e;rw [ea] at hv;cases hv;exact NT.quoted (AT.tree (hj _) λH2 s2=>⟨a,rfl,s2 _ _ ha⟩) (hw z (List.mem_of_getElem? e))
def jph(s:Vanbka.Stmt):Prop:=(∃ c x,s = .iff c x)\/(∃ c x y,s = .iffElse c x y)\/(∃ c x,s = .while_ c x)\/∃ n c x,s = .for n c x
def jpe(s:Vanbka.Stmt):Prop:=∃ x v lo hi,s = .slider x v lo hi
def jpg(s:Vanbka.Stmt):Prop:=∃ x v l,s = .choice x v l
abbrev jrm(K:W.Frag)(D:Ad)(d:Nat)(E:XK):TS:=jci (ji8 (ym (jj5 K) [] E (qk (tLc (jis K (ja4 K (qy 0) "blocks")) (ja7 3) jlc (ym (bg (RB K D d)) [] (λ_ _ _=>False) (qk (qy 3) xh)) [3]) (qk (tC (.str " else ")) xh))) (ja7 2)) (jge (tOp jhu (tOp jhu (tOp jhu (qy 1) (ym (bg (RE D d)) [] E (qk (tOp (jgu K) (ja4 K (qy 0) "parts") (tC (.int 0))) (qk (tC (.int 0)) xh)))) (ym z5 [] E (qk (tC (.str " ")) xh))) (qy 2)))
theorem jeg{d:Nat}{E:XK}{Dn:jbk}{H:Hp}{x p:Addr}{z:Str}{ls:List x8}{c:Vanbka.Expr}{ss:List Stmts}{pre:Bytes}(C:zu K mg "Tree" D.CN ["kind", "leaves", "parts", "blocks", "depth", "place", "end"])(T:qp D H x z ls [jx c] (ss.map xk))(e1:H p=some (.lst (vb pre)))(sz:ss.length<=1000)(hc:c.depth<=d)(wc:Cell.ew c<=MW)(hd:∀ s∈ss,s.depth<=d)(hw:∀ s∈ss,Cell.ssw s<=MW)
  (bd:(pre ++ c.form ++ b " " ++ glue (b " else ") (ss.map λs=>Vanbka.shownBlock s.forms)).length<=1000000) (q:Wr H Dn.rt (pre ++ c.form ++ b " " ++ glue (b " else ") (ss.map λs=>Vanbka.shownBlock s.forms))):jrm K D d E Dn [some (.ref x),some (.ref p),none,none] H:=by
 obtain ⟨ag,lb,hB,LB⟩:=LT.blocks (i:=0) (σ:=[some (.ref x),some (.ref p),none,none]) C T rfl;refine yg (NT.join (g:=b " else ") (PcT.blocks LB hB sz hd hw (λ_=>rfl) (λ_=>rfl)) (by decide +kernel) (by decide) (jiq bd)) λp3 H3 s3 n3 e3=>?_;have nt:=NT.part (E:=E) (σ:=[some (.ref x),some (.ref p),some (.ref p3),none]) (i:=0) (k:=0) (j:=0) C (T.same s3) rfl rfl hc wc
 rw [jlj] at nt;refine zy (CN.cat (CN.cat (CN.cat (MT.var rfl (s3 _ _ e1)).c nt.c).c (NT.lit " ").c).c (MT.var rfl e3).c) (q.on s3) bd
abbrev jew:PySem.Stmt:=top 102
theorem jmb:jv ["tree", "written", "blocks", "block"] ["tree"] (jj jew):=fs_
theorem jtg:ja8 ["tree", "written", "blocks", "block"] (jj jew) { kind:=.function,names:=[(".0",.local),("block",.local),("write_block",.globalImplicit)],isGenerator:=false,isCoroutine:=false } [("block",3)]:=⟨rfl,by decide +kernel,by decide +kernel,by decide +kernel,by decide +kernel⟩
theorem jsg(Kn:jr K mg "write_blocks" ["tree"] jew)(B:jaa P w K mg base D){d:Nat}(I:vt P w K mg base D d)(GB:ax P w K mg base (5 * d + 6) "write_block" ["statements"] (bg (RB K D d))):ax P w K mg base (5 * d + 7 + 1) "write_blocks" ["tree"] (bg (RS D (d + 1) jph)):=by
 refine wk Kn jmb (λ_ _ _ _ h=>by obtain ⟨_,⟨e,v,rfl,hs,nv,hd,hw,rfl⟩,_⟩:=h;rfl) λf ac A outer s H vs Q E hr h=>?_;obtain ⟨_,⟨e,v,rfl,hs,nv,hd,hw,rfl⟩,q⟩:=h;have nd:=jmb.nd
 have m_len:=B.m_len;have m_list:=B.m_list
 have m_zip:=B.m_zip;have C:=B.C
 obtain ⟨gf,gfd,gF,gb,gk,gm⟩:=GB;refine ⟨_,(jc (ju (i:=1) nd rfl (Or.inl rfl) (jh B.spell hr rfl (ja (qa jio (qc (pv 0) rfl) jf) jb) rk))
   (jc (qi (js xi (qc (pv 0) rfl) jf (j9 _)) (je (ju (i:=1) nd rfl (Or.inl rfl) (qa qh (qa qh (pv 1) (xp qv (qc (pv 0) rfl) qe (λ_ _=>rfl))) (jh B.spell hr rfl (ja jf jb) rk)))) j3)
   (jc (ju (i:=2) nd rfl (Or.inl rfl) (jh B.join hr rfl (ja (jd_ (own:=[("block",3)]) (te:=(ym (bg (RB K D d)) [] (λ_ _ _=>False) (qk (qy 3) xh))) rfl nd (vz (qc (pv 0) rfl)) jtg (λ_ _ _ _ _=>yo (i:=3) nd rfl (Or.inl rfl)) (λ_ _ _ _ _=>jbo) (λ_ _ _ _ _=>(v7 gF (hr.mono (by omega)) rfl gm gk gb .nil jb7 (ja (pv 3) jb)))) (ja jf jb)) rk))
   (je (jp (qa qh (qa qh (qa qh (pv 1) (jh I.expr hr rfl (ja (xp qv (qc (pv 0) rfl) qe (λ_ _=>rfl)) (ja (qz B.any rfl) jb)) rk)) (jh B.spell hr rfl (ja jf jb) rk)) (pv 2))))))),?_⟩
 have hw':Cell.sw1 e<=450000:=hw;have fb:=Cell.jh4 e
 rcases hs with ⟨c0,x0,rfl⟩ | ⟨c0,x0,y0,rfl⟩ | ⟨c0,x0,rfl⟩ | ⟨m0,c0,x0,rfl⟩
 ·have bd:=Nat.le_trans fb hw';rw [Vanbka.Stmt.form] at bd q;rw [Vanbka.Stmt.depth] at hd;rw [Cell.sw1] at hw';rw [yb] at nv;obtain ⟨x,rfl,T⟩:=qp.of nv;refine yg (NT.spellAdd (u:=b "if") (v:=b " ") (jg3 C T rfl) (by decide +kernel)) λp H1 s1 n1 e1=>?_;have T1:=T.same s1
  refine jbc (λQ q=>qx C T1 rfl q) (λc=>absurd c (by decide)) λ_=>?_;exact jeg (ss:=[x0]) C T1 e1 (by simp) (by omega) (by unfold MW;omega) (λs hs=>by
   simp only [List.mem_cons,List.not_mem_nil,or_false] at hs;rw [hs];omega) (λs hs=>by
   simp only [List.mem_cons,List.not_mem_nil,or_false] at hs;rw [hs];unfold MW;omega) (Nat.le_trans bd (by decide)) (q.on s1)
 ·have bd:=Nat.le_trans fb hw';rw [Vanbka.Stmt.form] at bd q;rw [Vanbka.Stmt.depth] at hd;rw [Cell.sw1] at hw';rw [yb] at nv;obtain ⟨x,rfl,T⟩:=qp.of nv;refine yg (NT.spellAdd (u:=b "if") (v:=b " ") (jg3 C T rfl) (by decide +kernel)) λp H1 s1 n1 e1=>?_;have T1:=T.same s1
  refine jbc (λQ q=>qx C T1 rfl q) (λc=>absurd c (by decide)) λ_=>?_;have ea:b "if " ++ c0.form ++ b " " ++ Vanbka.shownBlock x0.forms ++ b " else " ++ Vanbka.shownBlock y0.forms=(b "if" ++ b " ") ++ c0.form ++ b " " ++ glue (b " else ") ([x0,y0].map λs=>Vanbka.shownBlock s.forms):=by
   show _=b "if " ++ c0.form ++ b " " ++ (Vanbka.shownBlock x0.forms ++ b " else " ++ Vanbka.shownBlock y0.forms)
   simp only [List.append_assoc]
  rw [ea] at bd q;exact jeg (ss:=[x0,y0]) C T1 e1 (by simp) (by omega) (by unfold MW;omega) (λs hs=>by
   simp only [List.mem_cons,List.not_mem_nil,or_false] at hs;rcases hs with hs | hs <;> rw [hs] <;> omega) (λs hs=>by
   simp only [List.mem_cons,List.not_mem_nil,or_false] at hs;rcases hs with hs | hs <;> rw [hs] <;> unfold MW <;> omega) (Nat.le_trans bd (by decide)) (q.on s1)
 ·have bd:=Nat.le_trans fb hw';rw [Vanbka.Stmt.form] at bd q;rw [Vanbka.Stmt.depth] at hd;rw [Cell.sw1] at hw';rw [yb] at nv;obtain ⟨x,rfl,T⟩:=qp.of nv;refine yg (NT.spellAdd (u:=b "while") (v:=b " ") (jg3 C T rfl) (by decide +kernel)) λp H1 s1 n1 e1=>?_;have T1:=T.same s1
  refine jbc (λQ q=>qx C T1 rfl q) (λc=>absurd c (by decide)) λ_=>?_;exact jeg (ss:=[x0]) C T1 e1 (by simp) (by omega) (by unfold MW;omega) (λs hs=>by
   simp only [List.mem_cons,List.not_mem_nil,or_false] at hs;rw [hs];omega) (λs hs=>by
   simp only [List.mem_cons,List.not_mem_nil,or_false] at hs;rw [hs];unfold MW;omega) (Nat.le_trans bd (by decide)) (q.on s1)
 ·have bd:=Nat.le_trans fb hw';rw [Vanbka.Stmt.form] at bd q;rw [Vanbka.Stmt.depth] at hd;rw [Cell.sw1] at hw';rw [yb] at nv;obtain ⟨x,rfl,T⟩:=qp.of nv;refine yg (NT.spellAdd (u:=b "for") (v:=b " ") (jg3 C T rfl) (by decide +kernel)) λp H1 s1 n1 e1=>?_;have T1:=T.same s1
  refine jbc (λQ q=>qx C T1 rfl q) (λ_=>j1k (CN.cat (CN.cat (MT.var rfl e1).c (jcw C T1 rfl rfl).c).c (NT.lit " in ").c (Nat.le_trans (jee (jee (jee bd))) (by decide))) λp2 H2 s2 n2 e2=>?_) λc=>absurd rfl c;exact jeg (ss:=[x0]) C (T1.same s2) e2 (by simp) (by omega) (by unfold MW;omega) (λs hs=>by
   simp only [List.mem_cons,List.not_mem_nil,or_false] at hs;rw [hs];omega) (λs hs=>by
   simp only [List.mem_cons,List.not_mem_nil,or_false] at hs;rw [hs];unfold MW;omega) (Nat.le_trans bd (by decide)) (q.on (s1.trans s2))
abbrev jet:PySem.Stmt:=top 103
theorem jl5:jv ["tree", "first", "ends", "number"] ["tree"] (jj jet):=fs_
theorem jtd:ja8 ["tree", "first", "ends", "number"] (jj jet) { kind:=.function,names:=[(".0",.local),("number",.local),("write_number",.globalImplicit)],isGenerator:=false,isCoroutine:=false } [("number",3)]:=⟨rfl,by decide +kernel,by decide +kernel,by decide +kernel,by decide +kernel⟩
theorem jsa(Kn:jr K mg "write_slider" ["tree"] jet)(B:jaa P w K mg base D){d:Nat}(I:vt P w K mg base D d):ax P w K mg base (5 * d + 8 + 1) "write_slider" ["tree"] (bg (RS D (d + 1) jpe)):=by
 refine wk Kn jl5 (λ_ _ _ _ h=>by obtain ⟨_,⟨e,v,rfl,⟨x0,v0,lo,hi,rfl⟩,nv,hd,hw,rfl⟩,_⟩:=h;rfl) λf ac A outer s H vs Q E hr h=>?_;obtain ⟨_,⟨e,v,rfl,⟨x0,v0,lo,hi,rfl⟩,nv,hd,hw,rfl⟩,q⟩:=h;have nd:=jl5.nd
 have m_len:=B.m_len;have m_list:=B.m_list
 have m_zip:=B.m_zip;have C:=B.C
 obtain ⟨gf,gfd,gF,gb,gk,gm⟩:=B.number;refine ⟨_,(jc (ju (i:=1) nd rfl (Or.inl rfl) (jh B.number hr rfl (ja (xp qv (qc (pv 0) rfl) qe (λ_ _=>rfl)) jb) rk))
   (jc (ju (i:=2) nd rfl (Or.inl rfl) (jh B.join hr rfl (ja (jd_ (own:=[("number",3)]) (te:=(ym jdl [] (λ_ _ _=>False) (qk (qy 3) xh))) rfl nd (vz (jc0 jek (qc (pv 0) rfl) (jca qe) jil)) jtd (λ_ _ _ _ _=>yo (i:=3) nd rfl (Or.inl rfl)) (λ_ _ _ _ _=>jbo) (λ_ _ _ _ _=>(v7 gF (hr.mono (by omega)) rfl gm gk gb .nil jb7 (ja (pv 3) jb)))) (ja jf jb)) rk))
   (je (jp (qa qh (qa qh (qa qh (qa qh (qa qh (qa qh (jh B.spell hr rfl (ja jf jb) rk) (xp qv (qc (pv 0) rfl) qe (λ_ _=>rfl))) (jh B.spell hr rfl (ja jf jb) rk)) (pv 1)) (jh B.spell hr rfl (ja jf jb) rk)) (pv 2)) (jh B.spell hr rfl (ja jf jb) rk)))))),?_⟩
 have hw':Cell.sw1 (.slider x0 v0 lo hi)<=450000:=hw;have fb:=Nat.le_trans (Cell.jh4 (.slider x0 v0 lo hi)) hw'
 have ef:(Vanbka.Stmt.slider x0 v0 lo hi).form=b "slider " ++ x0 ++ b " = " ++ shownInt v0 ++ b " in " ++ glue (b ", ") ([lo,hi].map shownInt) ++ b ";":=by
  rw [Vanbka.Stmt.form];show _=b "slider " ++ x0 ++ b " = " ++ shownInt v0 ++ b " in " ++ (shownInt lo ++ b ", " ++ shownInt hi) ++ b ";"
  simp only [List.append_assoc]
 rw [ef] at fb q;have bd:=Nat.le_trans fb (show 450000<=1000000 by decide)
 rw [Cell.sw1] at hw';rw [yb] at nv;obtain ⟨x,rfl,T⟩:=qp.of nv;refine yg (NT.number (AT.leaf (j:=1) C T rfl rfl λv H2 s2 hv=>by rw [show v=_ from hv]) (by unfold MW;omega)) λp H1 s1 n1 e1=>?_;have T1:=T.same s1
 obtain ⟨ah,ll,hL,LL⟩:=LT.leaves (i:=0) (σ:=[some (.ref x),some (.ref p),none,none]) C T1 rfl;have ev:ah.drop 2=[lo,hi].map V.int:=by
  cases hL with
  | cons r0 hL=>cases hL with
   | cons r1 hL=>cases hL with
    | cons r2 hL=>cases hL with
     | cons r3 hL =>
      cases hL;rw [show _=_ from r2,show _=_ from r3];rfl
 have l2:2<=ah.length:=by rw [<- Paired.len hL];show 2<=4;decide
 have LL2:=LT.from (n:=2) LL l2
 rw [ev] at LL2;refine yg (NT.join (g:=b ", ") (PcT.numbers (zs:=[lo,hi]) LL2 (by simp) (λz hz=>?_) (λ_=>rfl) (λ_=>rfl)) (by decide +kernel) (by decide) (jiq (jee bd))) λp2 H2 s2 n2 e2=>?_
 ·simp only [List.mem_cons,List.not_mem_nil,or_false] at hz;rcases hz with hz | hz <;> rw [hz] <;> unfold MW <;> omega
 refine zy (CN.cat (CN.cat (CN.cat (CN.cat (CN.cat (CN.cat (NT.lit "slider ").c (jcw C (T1.same s2) rfl rfl).c).c (NT.lit " = ").c).c (MT.var rfl (s2 _ _ e1)).c).c (NT.lit " in ").c).c (MT.var rfl e2).c).c (NT.lit ";").c) (q.on (s1.trans s2)) bd
abbrev jev:PySem.Stmt:=top 104
theorem jma:jv ["tree", "first", "texts", "said"] ["tree"] (jj jev):=fs_
theorem jtf:ja8 ["tree", "first", "texts", "said"] (jj jev) { kind:=.function,names:=[(".0",.local),("said",.local),("write_quoted",.globalImplicit)],isGenerator:=false,isCoroutine:=false } [("said",3)]:=⟨rfl,by decide +kernel,by decide +kernel,by decide +kernel,by decide +kernel⟩
theorem jsf(Kn:jr K mg "write_choice" ["tree"] jev)(B:jaa P w K mg base D){d:Nat}(I:vt P w K mg base D d):ax P w K mg base (5 * d + 8 + 1) "write_choice" ["tree"] (bg (RS D (d + 1) jpg)):=by
 refine wk Kn jma (λ_ _ _ _ h=>by obtain ⟨_,⟨e,v,rfl,⟨x0,v0,l,rfl⟩,nv,hd,hw,rfl⟩,_⟩:=h;rfl) λf ac A outer s H vs Q E hr h=>?_;obtain ⟨_,⟨e,v,rfl,⟨x0,v0,l,rfl⟩,nv,hd,hw,rfl⟩,q⟩:=h;have nd:=jma.nd
 have m_len:=B.m_len;have m_list:=B.m_list
 have m_zip:=B.m_zip;have C:=B.C
 obtain ⟨gf,gfd,gF,gb,gk,gm⟩:=B.quoted;refine ⟨_,(jc (ju (i:=1) nd rfl (Or.inl rfl) (jh B.number hr rfl (ja (xp qv (qc (pv 0) rfl) qe (λ_ _=>rfl)) jb) rk))
   (jc (ju (i:=2) nd rfl (Or.inl rfl) (jh B.join hr rfl (ja (jd_ (own:=[("said",3)]) (te:=(ym (jdk K) [] (λ_ _ _=>False) (qk (qy 3) xh))) rfl nd (vz (jc0 jek (qc (pv 0) rfl) (jca qe) jil)) jtf (λ_ _ _ _ _=>yo (i:=3) nd rfl (Or.inl rfl)) (λ_ _ _ _ _=>jbo) (λ_ _ _ _ _=>(v7 gF (hr.mono (by omega)) rfl gm gk gb .nil jb7 (ja (pv 3) jb)))) (ja jf jb)) rk))
   (je (jp (qa qh (qa qh (qa qh (qa qh (qa qh (qa qh (jh B.spell hr rfl (ja jf jb) rk) (xp qv (qc (pv 0) rfl) qe (λ_ _=>rfl))) (jh B.spell hr rfl (ja jf jb) rk)) (pv 1)) (jh B.spell hr rfl (ja jf jb) rk)) (pv 2)) (jh B.spell hr rfl (ja jf jb) rk)))))),?_⟩
 have hw':Cell.sw1 (.choice x0 v0 l)<=450000:=hw;have fb:=Nat.le_trans (Cell.jh4 (.choice x0 v0 l)) hw'
 rw [Vanbka.Stmt.form] at fb q;have bd:=Nat.le_trans fb (show 450000<=1000000 by decide)
 rw [Cell.sw1] at hw';rw [yb] at nv;obtain ⟨x,rfl,T⟩:=qp.of nv;have e0:shownInt (v0:Int)=shownNat v0:=by
  unfold shownInt;rw [if_neg (by omega)];rfl
 rw [<- e0] at q bd;refine yg (NT.number (z:=(v0:Int)) (AT.leaf (j:=1) C T rfl rfl λv H2 s2 hv=>by rw [show v=_ from hv]) (by show Cell.nw v0<=MW;unfold MW;omega)) λp H1 s1 n1 e1=>?_;have T1:=T.same s1
 obtain ⟨ah,ll,hL,LL⟩:=LT.leaves (i:=0) (σ:=[some (.ref x),some (.ref p),none,none]) C T1 rfl;cases hL with
 | cons r0 hL=>cases hL with
  | cons r1 hL =>
   obtain ⟨as,rfl,hp⟩:=jdz hL;have pl:=Paired.len hp
   have lw:∀ z∈l,z.length<=300000:=by
    have:∀ (l:List Bytes),Cell.bsw l<=450000->∀ z∈l,z.length<=300000:=by
     intro l;induction l with
     | nil=>intro _ z hz;cases hz
     | cons y l ih =>
      intro h z hz;rw [Cell.bsw] at h;rcases List.mem_cons.mp hz with rfl | hz
      ·omega
      ·exact ih (by omega) z hz
    exact this l (by omega)
   rw [List.length_cons,List.length_cons,List.length_map] at ll;have LL2:=LT.from (n:=2) LL (by rw [List.length_cons,List.length_cons];omega)
   refine yg (NT.join (g:=b ", ") (PcT.quoteds (as:=as) LL2 hp (by omega) lw (λ_=>rfl) (λ_=>rfl)) (by decide +kernel) (by decide) (jiq (jee bd))) λp2 H2 s2 n2 e2=>?_;refine zy (CN.cat (CN.cat (CN.cat (CN.cat (CN.cat (CN.cat (NT.lit "choice ").c (jcw C (T1.same s2) rfl rfl).c).c (NT.lit " = ").c).c (MT.var rfl (s2 _ _ e1)).c).c (NT.lit " in ").c).c (MT.var rfl e2).c).c (NT.lit ";").c) (q.on (s1.trans s2)) bd
theorem jwg(x:Vanbka.Way):jk_ x=xo x.word:=by cases x <;> decide +kernel
abbrev jc_:PySem.Stmt:=top 101
theorem jhn:jv ["tree", "kind", "value"] ["tree"] (jj jc_):=fs_
theorem jm2(Kn:jr K mg "write_statement" ["tree"] jc_)(B:jaa P w K mg base D){d:Nat}(I:vt P w K mg base D d)(GBs:ax P w K mg base (5 * d + 8) "write_blocks" ["tree"] (bg (RS D (d + 1) jph)))(GSl:ax P w K mg base (5 * d + 9) "write_slider" ["tree"] (bg (RS D (d + 1) jpe)))(GCh:ax P w K mg base (5 * d + 9) "write_choice" ["tree"] (bg (RS D (d + 1) jpg))):ax P w K mg base (5 * d + 9 + 1) "write_statement" ["tree"] (bg (RS D (d + 1) jtk)):=by
 refine wk Kn jhn (λ_ _ _ _ h=>by obtain ⟨_,⟨e,v,rfl,_,nv,hd,hw,rfl⟩,_⟩:=h;rfl) λf ac A outer s H vs Q E hr h=>?_;obtain ⟨_,⟨e,v,rfl,_,nv,hd,hw,rfl⟩,q⟩:=h;have nd:=jhn.nd
 have m_len:=B.m_len;have m_list:=B.m_list
 have m_zip:=B.m_zip;have C:=B.C
 refine ⟨_,(jc (ju (i:=1) nd rfl (Or.inl rfl) (qc (pv 0) rfl))
   (jc (qi (js zn (pv 1) (jbw (ja jf (ja jf jb))) rfl) (jc (ju (i:=2) nd rfl (Or.inl rfl) (jh I.expr hr rfl (ja (xp qv (qc (pv 0) rfl) qe (λ_ _=>rfl)) (ja (qz B.any rfl) jb)) rk))
   (je (jp (qa qh (qa qh (qa qh (qa qh (jh B.spell hr rfl (ja (qa jio (pv 1) jf) jb) rk) (xp qv (qc (pv 0) rfl) qe (λ_ _=>rfl))) (jh B.spell hr rfl (ja jf jb) rk)) (pv 2)) (jh B.spell hr rfl (ja jf jb) rk))))) j3)
   (jc (qi (js zn (pv 1) (jbw (ja jf (ja jf (ja jf jb)))) rfl) (je (jp (jh GBs hr rfl (ja (pv 0) jb) rk))) j3)
   (jc (qi (js xi (pv 1) jf (j9 _)) (je (jp (jh GSl hr rfl (ja (pv 0) jb) rk))) j3)
   (jc (qi (js xi (pv 1) jf (j9 _)) (je (jp (jh GCh hr rfl (ja (pv 0) jb) rk))) j3)
   (je (jp (qa qh (qa qh (jh B.spell hr rfl (ja (qa jio (pv 1) jf) jb) rk) (jh I.expr hr rfl (ja (xp qv (qc (pv 0) rfl) qe (λ_ _=>rfl)) (ja (qz B.any rfl) jb)) rk)) (jh B.spell hr rfl (ja jf jb) rk))))))))),?_⟩
 have hw':Cell.sw1 e<=450000:=hw;have fb:=Nat.le_trans (Cell.jh4 e) hw'
 cases e with
 | leta x0 e0 =>
  rw [Vanbka.Stmt.form] at fb q;have bd:=Nat.le_trans fb (show 450000<=1000000 by decide)
  rw [Vanbka.Stmt.depth] at hd;rw [Cell.sw1] at hw';rw [yb] at nv;obtain ⟨x,rfl,T⟩:=qp.of nv;refine qx C T rfl (wq rfl ["let", "set"] (by decide) λH1 s1=>?_);have T1:=T.same s1
  have nt:=NT.part (E:=E) (σ:=[some (.ref x),some (.str "let"),none]) (i:=0) (k:=0) (j:=0) C T1 rfl rfl (show e0.depth<=d by omega) (show Cell.ew e0<=MW by unfold MW;omega);rw [jlj] at nt;refine yg nt λp H2 s2 n2 e2=>?_;refine zy (CN.cat (CN.cat (CN.cat (CN.cat (NT.spellAdd (u:=b "let") (v:=b " ") jj0 (by decide +kernel)).c (jcw C (T1.same s2) rfl rfl).c).c (NT.lit " = ").c).c (MT.var rfl e2).c).c (NT.lit ";").c) (q.on (s1.trans s2)) bd
 | seta x0 e0 =>
  rw [Vanbka.Stmt.form] at fb q;have bd:=Nat.le_trans fb (show 450000<=1000000 by decide)
  rw [Vanbka.Stmt.depth] at hd;rw [Cell.sw1] at hw';rw [yb] at nv;obtain ⟨x,rfl,T⟩:=qp.of nv;refine qx C T rfl (wq rfl ["let", "set"] (by decide) λH1 s1=>?_);have T1:=T.same s1
  have nt:=NT.part (E:=E) (σ:=[some (.ref x),some (.str "set"),none]) (i:=0) (k:=0) (j:=0) C T1 rfl rfl (show e0.depth<=d by omega) (show Cell.ew e0<=MW by unfold MW;omega);rw [jlj] at nt;refine yg nt λp H2 s2 n2 e2=>?_;refine zy (CN.cat (CN.cat (CN.cat (CN.cat (NT.spellAdd (u:=b "set") (v:=b " ") jj0 (by decide +kernel)).c (jcw C (T1.same s2) rfl rfl).c).c (NT.lit " = ").c).c (MT.var rfl e2).c).c (NT.lit ";").c) (q.on (s1.trans s2)) bd
 | iff c0 x0 =>
  have nv':=nv;rw [yb] at nv;obtain ⟨x,rfl,T⟩:=qp.of nv;refine qx C T rfl (yh rfl ["let", "set"] (by decide) λH1 s1=>wq rfl ["if", "while", "for"] (by decide) λH2 s2=>?_);exact x9 (NT.call (AT.tree rfl λH3 s3=>⟨_,_,rfl,.inl ⟨_,_,rfl⟩,jz.same ((s1.trans s2).trans s3) _ _ nv',hd,hw,rfl⟩)) (q.on (s1.trans s2))
 | iffElse c0 x0 y0 =>
  have nv':=nv;rw [yb] at nv;obtain ⟨x,rfl,T⟩:=qp.of nv;refine qx C T rfl (yh rfl ["let", "set"] (by decide) λH1 s1=>wq rfl ["if", "while", "for"] (by decide) λH2 s2=>?_);exact x9 (NT.call (AT.tree rfl λH3 s3=>⟨_,_,rfl,.inr (.inl ⟨_,_,_,rfl⟩),jz.same ((s1.trans s2).trans s3) _ _ nv',hd,hw,rfl⟩)) (q.on (s1.trans s2))
 | while_ c0 x0 =>
  have nv':=nv;rw [yb] at nv;obtain ⟨x,rfl,T⟩:=qp.of nv;refine qx C T rfl (yh rfl ["let", "set"] (by decide) λH1 s1=>wq rfl ["if", "while", "for"] (by decide) λH2 s2=>?_);exact x9 (NT.call (AT.tree rfl λH3 s3=>⟨_,_,rfl,.inr (.inr (.inl ⟨_,_,rfl⟩)),jz.same ((s1.trans s2).trans s3) _ _ nv',hd,hw,rfl⟩)) (q.on (s1.trans s2))
 | «for» n0 c0 x0 =>
  have nv':=nv;rw [yb] at nv;obtain ⟨x,rfl,T⟩:=qp.of nv;refine qx C T rfl (yh rfl ["let", "set"] (by decide) λH1 s1=>wq rfl ["if", "while", "for"] (by decide) λH2 s2=>?_);exact x9 (NT.call (AT.tree rfl λH3 s3=>⟨_,_,rfl,.inr (.inr (.inr ⟨_,_,_,rfl⟩)),jz.same ((s1.trans s2).trans s3) _ _ nv',hd,hw,rfl⟩)) (q.on (s1.trans s2))
 | slider x0 v0 lo hi =>
  have nv':=nv;rw [yb] at nv;obtain ⟨x,rfl,T⟩:=qp.of nv;refine qx C T rfl (yh rfl ["let", "set"] (by decide) λH1 s1=>yh rfl ["if", "while", "for"] (by decide) λH2 s2=>jbb rfl rfl ?_);exact x9 (NT.call (AT.tree rfl λH3 s3=>⟨_,_,rfl,⟨_,_,_,_,rfl⟩,jz.same ((s1.trans s2).trans s3) _ _ nv',hd,hw,rfl⟩)) (q.on (s1.trans s2))
 | choice x0 v0 l =>
  have nv':=nv;rw [yb] at nv;obtain ⟨x,rfl,T⟩:=qp.of nv;refine qx C T rfl (yh rfl ["let", "set"] (by decide) λH1 s1=>yh rfl ["if", "while", "for"] (by decide) λH2 s2=>j7 rfl (by decide) (jbb rfl rfl ?_));exact x9 (NT.call (AT.tree rfl λH3 s3=>⟨_,_,rfl,⟨_,_,_,rfl⟩,jz.same ((s1.trans s2).trans s3) _ _ nv',hd,hw,rfl⟩)) (q.on (s1.trans s2))
 | way w0 e0 =>
  rw [Vanbka.Stmt.form] at fb q;have bd:=Nat.le_trans fb (show 450000<=1000000 by decide)
  rw [Vanbka.Stmt.depth] at hd;rw [Cell.sw1] at hw';rw [yb] at nv;obtain ⟨x,rfl,T⟩:=qp.of nv;have wl:=Cell.jp9 w0
  refine qx C T rfl (yh rfl ["let", "set"] (by cases w0 <;> decide) λH1 s1=>yh rfl ["if", "while", "for"] (by cases w0 <;> decide) λH2 s2=>j7 rfl (by cases w0 <;> decide) (j7 rfl (by cases w0 <;> decide) ?_));have nt:=NT.part (E:=E) (σ:=[some (.ref x),some (.str (jk_ w0)),none]) (i:=0) (k:=0) (j:=0) C ((T.same s1).same s2) rfl rfl (show e0.depth<=d by omega) (show Cell.ew e0<=MW by unfold MW;omega)
  rw [jlj] at nt;refine zy (CN.cat (CN.cat (NT.spellAdd (v:=b " ") jj0 (jwg w0) (h1:=by omega)).c nt.c).c (NT.lit ";").c) (q.on (s1.trans s2)) bd
structure jwb(K:W.Frag)(mg:Str->Option Value):Prop where
 WListed:jr K mg "write_listed" ["parts"] jeu
 WBlock:jr K mg "write_block" ["statements"] jf0
 WRecord:jr K mg "write_record" ["tree"] jgk
 WFunction:jr K mg "write_function" ["tree"] jd6
 WReach:jr K mg "write_reach" ["tree"] jij
 WChosen:jr K mg "write_chosen" ["tree"] jgl
 WBetween:jr K mg "write_between" ["tree"] je6
 WSimple:jr K mg "write_simple" ["tree"] jgj
 WBare:jr K mg "write_bare" ["tree"] jkb
 WExpr:jr K mg "write_expression" ["tree", "wanted"] jka
 WBlocks:jr K mg "write_blocks" ["tree"] jew
 WSlider:jr K mg "write_slider" ["tree"] jet
 WChoice:jr K mg "write_choice" ["tree"] jev
 WStatement:jr K mg "write_statement" ["tree"] jc_
theorem js_(e:Vanbka.Expr):1<=e.depth:=by cases e <;> (rw [Vanbka.Expr.depth];omega)
theorem js9(e:Vanbka.Stmt):1<=e.depth:=by cases e <;> (rw [Vanbka.Stmt.depth];omega)
theorem jtl(Kn:jwb K mg)(B:jaa P w K mg base D):∀ d,vt P w K mg base D d
 | 0=>⟨jvn Kn.WExpr (λvs H Q E h=>by
   obtain ⟨_,⟨e,v,k,rfl,nv,hd,hw,rfl⟩,_⟩:=h;have:=js_ e
   omega),jvn Kn.WStatement (λvs H Q E h=>by
   obtain ⟨_,⟨e,v,rfl,_,nv,hd,hw,rfl⟩,_⟩:=h;have:=js9 e
   omega)⟩
 | d + 1=>by
  have I:=jtl Kn B d;have GL:=jsd Kn.WListed B I
  have GB:=ju4 Kn.WBlock B I;have GR:=jsc Kn.WRecord B I
  have GF:=jol Kn.WFunction B I GB;have GS:=jsb Kn.WSimple B I GL GR GF
  have GBa:=jxv Kn.WBare B I (jpo Kn.WBetween B I) (jse Kn.WChosen B I) (ju3 Kn.WReach B I GL) GS;exact ⟨jxu Kn.WExpr B I GBa,jm2 Kn.WStatement B I (jsg Kn.WBlocks B I GB) (jsa Kn.WSlider B I) (jsf Kn.WChoice B I)⟩
def RP(K:W.Frag)(D:Ad):List V->Hp->Bytes->Prop:=λvs H x=>∃ (l:Stmts) (a:Addr) (us:List V),vs=[.ref a]/\az K H a us/\us.length<=2000/\ji D.CN H (xk l) us/\l.depth<=40/\Cell.ssw l<=MW/\x=l.form
abbrev je5:PySem.Stmt:=top 99
theorem jj8:jv ["statements", "statement"] ["statements"] (jj je5):=fs_
theorem jp7:ja8 ["statements", "statement"] (jj je5) { kind:=.function,names:=[(".0",.local),("statement",.local),("write_statement",.globalImplicit)],isGenerator:=false,isCoroutine:=false } [("statement",1)]:=⟨rfl,by decide +kernel,by decide +kernel,by decide +kernel,by decide +kernel⟩
theorem jpn(Kn:jr K mg "write_program" ["statements"] je5)(B:jaa P w K mg base D)(I:vt P w K mg base D 40):ax P w K mg base (205 + 1) "write_program" ["statements"] (bg (RP K D)):=by
 refine wk Kn jj8 (λ_ _ _ _ h=>by obtain ⟨_,⟨l,a,us,rfl,hS,hn,hN,hd,hw,rfl⟩,_⟩:=h;rfl) λf ac A outer s H vs Q E hr h=>?_;obtain ⟨_,⟨l,a,us,rfl,hS,hn,hN,hd,hw,rfl⟩,q⟩:=h;have nd:=jj8.nd
 have m_len:=B.m_len;have m_list:=B.m_list
 have m_zip:=B.m_zip;have C:=B.C
 obtain ⟨gf,gfd,gF,gb,gk,gm⟩:=I.stmt;refine ⟨_,(je (jp (jh B.join hr rfl (ja (jd_ (own:=[("statement",1)]) (te:=(ym (bg (RS D 40 jtk)) [] (λ_ _ _=>False) (qk (qy 1) xh))) rfl nd (vz (pv 0)) jp7 (λ_ _ _ _ _=>yo (i:=1) nd rfl (Or.inl rfl)) (λ_ _ _ _ _=>jbo) (λ_ _ _ _ _=>(v7 gF (hr.mono (by omega)) rfl gm gk gb .nil jb7 (ja (pv 1) jb)))) (ja jf jb)) (by omega)))),?_⟩;have fl:=Cell.ja1 l
 have gl:=Cell.z8 (g:=[10]) (by decide) l.forms;have ln:=ji.len _ _ hN
 have lf:=jg7 l;refine x9 (NT.join (g:=[10]) (PcT.lc (LT.var rfl hS) (by omega) (by omega) (λi v x hv hx=>?_) (λ_=>rfl)) (by decide +kernel) (by decide) (by unfold MW at hw;omega)) q;obtain ⟨e,h1,rfl,h3,h4⟩:=jg0 hx;obtain ⟨v',ev,nv⟩:=ji.get _ _ hN i _ h1;rw [hv] at ev;cases ev;exact NT.call λH' s Q' q'=>⟨_,rfl,q' _ H' (jg.refl _) ⟨e,_,rfl,trivial,jz.same s _ _ nv,by omega,by omega,rfl⟩⟩
end
end Prg
end
section
set_option autoImplicit false
namespace Cell
open Vanbka
theorem jg9:∀ (k n:Nat),0 < k->n < 10 ^ k->(Nat.toDigits 10 n).length<=k
 | 0,_,h,_=>absurd h (Nat.lt_irrefl 0)
 | 1,n,_,h=>by rw [Nat.toDigits_of_lt_base (by simpa using h)];exact Nat.le_refl _
 | k + 2,n,_,h=>by
  rw [Nat.toDigits_eq_if (by decide)];split
  ·show 1<=_;omega
  ·rw [List.length_append];have:=jg9 (k + 1) (n / 10) (Nat.succ_pos _) (by rw [Nat.div_lt_iff_lt_mul (by decide)];rw [Nat.pow_succ] at h;exact h)
   show _ + 1<=_;omega
theorem jmm:∀ (d:Bytes) (a:Nat),(∀ c∈d,digit c=true)->d.foldl (λn c=>10 * n + (c.toNat - 48)) a < (a + 1) * 10 ^ d.length
 | [],a,_=>by simp
 | c::d,a,h=>by
  have:=jmm d (10 * a + (c.toNat - 48)) (λx hx=>h x (.tail _ hx));have hc:=h c (.head _)
  unfold digit at hc;simp only [Bool.and_eq_true,decide_eq_true_eq,UInt8.le_iff_toNat_le] at hc;have hc2:c.toNat<=57:=hc.2
  rw [List.foldl_cons,List.length_cons,Nat.pow_succ];refine Nat.lt_of_lt_of_le this ?_;have:10 * a + (c.toNat - 48) + 1<=(a + 1) * 10:=by omega
  calc (10 * a + (c.toNat - 48) + 1) * 10 ^ d.length<=((a + 1) * 10) * 10 ^ d.length:=Nat.mul_le_mul_right _ this
   _=(a + 1) * (10 ^ d.length * 10):=by rw [Nat.mul_assoc,Nat.mul_comm 10]
theorem jxx(d:Bytes)(h:∀ c∈d,digit c=true):natOf d < 10 ^ d.length:=by
 have:=jmm d 0 h;unfold natOf;omega
theorem jum:∀ (u:Bytes) (x:Bytes×Nat),quotedFrom u=some x->x.1.length<=x.2:=by
 intro u;induction u using quotedFrom.induct <;> intro x hx <;> simp only [quotedFrom,Option.map_eq_some_iff,Option.some.injEq,reduceCtorEq] at hx
 all_goals first
  | (subst hx;simp)
  | (obtain ⟨y,hy,rfl⟩:=hx;rename_i ih _ ;have:=ih _ hy;simp only [List.length_cons];omega)
  | (obtain ⟨y,hy,rfl⟩:=hx;rename_i ih;have:=ih _ hy;simp only [List.length_cons];omega)
  | skip
theorem jw1:∀ (u:Bytes) (x:Bytes×Nat),quotedFrom u=some x->(∀ c∈u,allowed c=true)->x.1.all allowed=true:=by
 intro u;induction u using quotedFrom.induct <;> intro x hx ha <;> simp only [quotedFrom,Option.map_eq_some_iff,Option.some.injEq,reduceCtorEq] at hx
 all_goals first
  | (subst hx;rfl)
  | (obtain ⟨y,hy,rfl⟩:=hx;rename_i ih _ ;have:=ih _ hy (λc hc=>ha c (by simp [hc]));simp only [List.all_cons,this,Bool.and_true];first | rfl | exact ha _ (.head _))
  | (obtain ⟨y,hy,rfl⟩:=hx;rename_i ih;have:=ih _ hy (λc hc=>ha c (by simp [hc]));simp only [List.all_cons,this,Bool.and_true];first | rfl | exact ha _ (.head _))
  | skip
theorem joo{p:UInt8->Bool}:∀ (l:Bytes),∀ c∈l.takeWhile p,p c=true
 | [],c,h=>by simp at h
 | x::l,c,h=>by
  rw [List.takeWhile_cons] at h;split at h
  ·rcases List.mem_cons.mp h with rfl | h
   ·assumption
   ·exact joo l c h
  ·cases h
theorem j3z{t:Bytes}{l:Lex}{k:Nat}(h:lexAt t=some (l,k))(ha:∀ c∈t,allowed c=true):lw l<=2 * k:=by
 unfold lexAt at h;split at h
 ·cases h
 ·rename_i c r;split at h
  ·rename_i hl;dsimp only at h;split at h
   ·cases h;have wb:wordByte c=true:=by unfold wordByte;rw [hl];rfl
    have wd:word ((c::r).takeWhile wordByte)=true:=by
     rw [List.takeWhile_cons,if_pos wb];rename_i hk;rw [List.takeWhile_cons,if_pos wb,List.length_cons] at hk;show (letter c && ((r.takeWhile wordByte).all wordByte && decide ((r.takeWhile wordByte).length<=15)))=true
     rw [hl,Bool.true_and,Bool.and_eq_true];exact ⟨List.all_eq_true.mpr λd hd=>joo _ d hd,dt_ (by omega)⟩
    rw [lw,ne,if_pos wd];omega
   ·cases h
  split at h
  ·dsimp only at h;split at h
   ·rename_i hd hk;cases h;simp only [Bool.and_eq_true,decide_eq_true_eq] at hk;have n1:=jxx ((c::r).takeWhile digit) (joo _)
    have pos:0 < ((c::r).takeWhile digit).length:=by rw [List.takeWhile_cons,if_pos hd,List.length_cons];omega
    have dl:=jg9 _ _ pos n1;rw [lw,nw,if_pos (Nat.lt_of_lt_of_le n1 (Nat.pow_le_pow_right (by decide) (by omega)))];omega
   ·cases h
  split at h
  ·rw [Option.map_eq_some_iff] at h;obtain ⟨x,hx,e⟩:=h;cases e;have:=jum r x hx
   rw [lw,nq,if_pos (jw1 r x hx λc hc=>ha c (.tail _ hc))];omega
  split at h
  ·cases h;rw [lw];omega
  split at h
  ·cases h;rw [lw];omega
  ·cases h
theorem jwj:∀ (n p:Nat) (t:Bytes) (ts:List Tok),(∀ c∈t,allowed c=true)->tokensFrom n p t = .ok ts->bf ts<=202 * t.length:=by
 intro n;induction n with
 | zero=>intro p t ts ha h;cases h;rw [bf];omega
 | succ n ih =>
  intro p t ts ha h;cases t with
  | nil=>cases h;rw [bf];omega
  | cons c r =>
   rw [tokensFrom] at h;split at h
   ·have:=ih _ _ _ (λx hx=>ha x (.tail _ hx)) h;rw [List.length_cons];omega
   split at h
   ·have:=ih _ _ _ (λx hx=>ha x (List.mem_of_mem_drop hx)) h;rw [List.length_drop] at this;omega
   ·split at h
    ·cases h
    ·rename_i l k hl;split at h
     ·cases h
     ·rename_i ts' hts;cases h;have:=ih _ _ _ (λx hx=>ha x (List.mem_of_mem_drop hx)) hts
      have kl:=jce hl;have wl:=j3z hl ha
      rw [List.length_drop] at this;rw [bf,tw];dsimp only;omega
theorem j10{t:Bytes}{s:Stmts}(h:Vanbka.read t = .ok s)(ht:t.length<=600):ssw s<=200000/\s.depth<=40:=by
 unfold Vanbka.read at h;split at h
 ·cases h
 rename_i hf;have ha:∀ c∈t,allowed c=true:=λc hc=>by
  have:=List.findIdx?_eq_none_iff.mp hf c hc;simpa using this
 split at h
 ·cases h
 rename_i ts hts;split at h
 ·cases h
 split at h
 ·cases h
 rename_i s' hp;split at h
 ·cases h
 ·cases h;have a:=juo hp
  have c:=jwj _ _ _ _ ha hts;exact ⟨by omega,by omega⟩
end Cell
end
section
set_option autoImplicit false
namespace Cell
open Vanbka
abbrev AA(x:Bytes):Prop:=x.all allowed=true
theorem jic{x y:Bytes}(h:AA x)(k:AA y):AA (x ++ y):=by unfold AA;rw [List.all_append,h,k];rfl
theorem jpd{c:UInt8}(h:digit c=true):allowed c=true:=by
 unfold digit at h;unfold allowed;simp only [Bool.and_eq_true,decide_eq_true_eq,Bool.or_eq_true,UInt8.le_iff_toNat_le] at *
 have h1:48<=c.toNat:=h.1;have h2:c.toNat<=57:=h.2
 exact .inr ⟨(by show 32<=c.toNat;omega),(by show c.toNat<=126;omega)⟩
theorem jv_{c:UInt8}(h:letter c=true):allowed c=true:=by
 unfold letter at h;unfold allowed;simp only [Bool.and_eq_true,decide_eq_true_eq,Bool.or_eq_true,UInt8.le_iff_toNat_le,beq_iff_eq] at *
 have key:65<=c.toNat/\c.toNat<=122:=by
  rcases h with (h | h) | h
  ·have h1:65<=c.toNat:=h.1;have h2:c.toNat<=90:=h.2
   omega
  ·have h1:97<=c.toNat:=h.1;have h2:c.toNat<=122:=h.2
   omega
  ·subst h;decide
 exact .inr ⟨(by show 32<=c.toNat;omega),(by show c.toNat<=126;omega)⟩
theorem jp8{c:UInt8}(h:wordByte c=true):allowed c=true:=by
 unfold wordByte at h;rcases (Bool.or_eq_true _ _).mp h with y | y
 ·exact jv_ y
 ·exact jpd y
theorem jwa{p:UInt8->Bool}(hp:∀ {c},p c=true->allowed c=true){x:Bytes}(h:x.all p=true):AA x:=List.all_eq_true.mpr λc hc=>hp (List.all_eq_true.mp h c hc)
theorem jpc{c:UInt8}(h:allowed c=true):AA [c]:=by
 show (allowed c && true)=true;rw [h];rfl
theorem jyk{c:UInt8}(h:blank c=true):allowed c=true:=by
 unfold blank at h;rw [Bool.or_eq_true,beq_iff_eq,beq_iff_eq] at h;rcases h with rfl | rfl <;> rfl
theorem jy4{x:Bytes}(h:nq x<=1000000):x.all allowed=true:=by
 unfold nq at h;split at h
 ·assumption
 ·omega
theorem ju8:∀ {l:List Bytes},nqs l<=1000000->∀ x∈l,x.all allowed=true
 | [],_,x,m=>by cases m
 | y::l,h,x,m=>by
  rw [nqs] at h;rcases List.mem_cons.mp m with z | z
  ·subst z;exact jy4 (by omega)
  ·exact ju8 (l:=l) (by omega) x z
theorem jv9{s:Bytes}(h:s.all allowed=true):AA (shownQuoted s):=by
 have:AA (s.flatMap shownByte):=by
  induction s with
  | nil=>rfl
  | cons c s ih =>
   rw [List.all_cons,Bool.and_eq_true] at h;rw [List.flatMap_cons];refine jic ?_ (ih h.2);unfold shownByte;split
   ·rfl
   split
   ·rfl
   split
   ·rfl
   ·show (allowed c && true)=true;rw [h.1];rfl
 exact jic (jic (x:=[34]) rfl this) rfl
inductive Lx:Bytes->Prop
 | nil:Lx []
 | blank {c:UInt8} {r:Bytes} (h:blank c=true) (k:Lx r):Lx (c::r)
 | tok {c:UInt8} {r:Bytes} {l:Lex} {n:Nat} (h1:Vanbka.blank c=false) (h2:(c == 35)=false) (h:lexAt (c::r)=some (l,n)) (a:AA ((c::r).take n)) (k:Lx ((c::r).drop n)):Lx (c::r)
theorem Lx.ok{t:Bytes}(h:Lx t):∀ n p,t.length < n->∃ ts,tokensFrom n p t = .ok ts:=by
 induction h with
 | nil =>
  intro n p hn;cases n with
  | zero=>omega
  | succ n=>exact ⟨[],by rw [tokensFrom]⟩
 | blank h k ih =>
  intro n p hn;rw [List.length_cons] at hn;cases n with
  | zero=>omega
  | succ n =>
   rw [tokensFrom,if_pos h];exact ih n _ (by omega)
 | tok h1 h2 h a k ih =>
  intro n p hn;rename_i c r l m;cases n with
  | zero=>omega
  | succ n =>
   have:=jce h;rw [List.length_cons] at hn this;rw [tokensFrom,if_neg (by rw [h1];exact Bool.false_ne_true),if_neg (by rw [h2];exact Bool.false_ne_true),h];obtain ⟨ts,e⟩:=ih n (p + m) (by rw [List.length_drop,List.length_cons];omega);dsimp only;rw [e];exact ⟨_,rfl⟩
theorem Lx.tokens{t:Bytes}(h:Lx t):∃ ts,tokens t = .ok ts:=h.ok _ _ (Nat.lt_succ_self _)
theorem Lx.al{t:Bytes}(h:Lx t):AA t:=by
 induction h with
 | nil=>rfl
 | blank h k ih=>exact jic (jpc (jyk h)) ih
 | tok h1 h2 h a k ih =>
  have:=jic a ih;rw [List.take_append_drop] at this;exact this
def j2_(y:Bytes):Prop:=∀ c r,y=c::r->wordByte c=false
def PP(x:Bytes):Prop:=∀ y,j2_ y->Lx y->Lx (x ++ y)
def BB(x:Bytes):Prop:=∀ y,Lx y->Lx (x ++ y)
def NW(z:Bytes):Prop:=∃ c r,z=c::r/\wordByte c=false
theorem BB.p{x:Bytes}(h:BB x):PP x:=λy _ k=>h y k
theorem BB.app{x z:Bytes}(h:BB x)(k:BB z):BB (x ++ z):=λy q=>by rw [List.append_assoc];exact h _ (k y q)
theorem BB.appP{x z:Bytes}(h:BB x)(k:PP z):PP (x ++ z):=λy s q=>by rw [List.append_assoc];exact h _ (k y s q)
theorem NW.stop{z y:Bytes}(n:NW z):j2_ (z ++ y):=λc r e=>by
 obtain ⟨d,s,rfl,w⟩:=n;cases e;exact w
theorem PP.appB{x z:Bytes}(h:PP x)(n:NW z)(k:BB z):BB (x ++ z):=λy q=>by rw [List.append_assoc];exact h _ n.stop (k y q)
theorem juq:PP []:=λ_ _ k=>k
theorem jpa{c:UInt8}(h:blank c=true):BB [c]:=λ_ k=>.blank h k
theorem jq4:doubleSigns=[[61,61],[33,61],[60,61],[62,61],[43,43]]:=by decide +kernel
theorem jqz{c:UInt8}{r:Bytes}(h1:letter c=false)(h2:digit c=false)(h3:(c == 34)=false)(h4:doubleSigns.contains ((c::r).take 2)=false)(h5:singleSigns.contains c=true):lexAt (c::r)=some (.sign [c],1):=by
 unfold lexAt;dsimp only;rw [h1,h2,h3,h4,h5];rfl
theorem ju_{c:UInt8}{r:Bytes}(h:c∉([61,33,60,62,43]:List UInt8)):doubleSigns.contains ((c::r).take 2)=false:=by
 have e:(c::r).take 2=c::r.take 1:=rfl;rw [e,jq4];simp only [List.mem_cons,List.not_mem_nil,or_false,not_or] at h;obtain ⟨a,a2,a3,a4,a5⟩:=h;simp [a,a2,a3,a4,a5]
def jwp:List UInt8:=[40,41,91,93,123,125,44,59,58,46,63,45,42,47,37]
theorem jzj:∀ c∈jwp,letter c=false/\digit c=false/\(c == 34)=false/\singleSigns.contains c=true/\c∉([61,33,60,62,43]:List UInt8)/\blank c=false/\(c == 35)=false/\allowed c=true:=by decide +kernel
theorem jra{c:UInt8}(h:c∈jwp):BB [c]:=λy k=>by
 obtain ⟨h1,h2,h3,h4,h5,h6,h7,h8⟩:=jzj c h;exact .tok h6 h7 (jqz h1 h2 h3 (ju_ h5) h4) (jpc h8) k
theorem jz0:∀ c∈([61,60,62,43]:List UInt8),letter c=false/\digit c=false/\(c == 34)=false/\singleSigns.contains c=true/\doubleSigns.contains [c,32]=false/\blank c=false/\(c == 35)=false/\allowed c=true:=by decide +kernel
theorem j05{c:UInt8}(h:c∈([61,60,62,43]:List UInt8)):BB [c,32]:=λy k=>by
 obtain ⟨h1,h2,h3,h4,h5,h6,h7,h8⟩:=jz0 c h;exact .tok h6 h7 (jqz (r:=32::y) h1 h2 h3 h5 h4) (jpc h8) (.blank (c:=32) rfl k)
theorem jvx:∀ x∈doubleSigns,∃ c d,x=[c,d]/\letter c=false/\digit c=false/\(c == 34)=false/\blank c=false/\(c == 35)=false/\AA [c,d]:=by
 rw [jq4];intro x h;simp only [List.mem_cons,List.not_mem_nil,or_false] at h;rcases h with rfl | rfl | rfl | rfl | rfl <;> exact ⟨_,_,rfl,by decide +kernel,by decide +kernel,by decide +kernel,by decide +kernel,by decide +kernel,by decide +kernel⟩
theorem jv5{x:Bytes}(h:x∈doubleSigns):BB x:=λy k=>by
 obtain ⟨c,d,rfl,h1,h2,h3,h6,h7,h8⟩:=jvx x h;refine .tok (l:=.sign [c,d]) (n:=2) h6 h7 ?_ h8 k;have e:doubleSigns.contains ((c::d::y).take 2)=true:=by
  show doubleSigns.contains [c,d]=true;simpa using h
 show lexAt (c::d::y)=_;unfold lexAt;dsimp only;rw [h1,h2,h3,e];rfl
theorem tw_app{p:UInt8->Bool}:∀ {x y:Bytes},x.all p=true->(∀ c r,y=c::r->p c=false)->(x ++ y).takeWhile p=x
 | [],y,_,h=>by
  cases y with
  | nil=>rfl
  | cons c r=>rw [List.nil_append,List.takeWhile_cons,h c r rfl];rfl
 | c::x,y,a,h=>by
  rw [List.all_cons,Bool.and_eq_true] at a;rw [List.cons_append,List.takeWhile_cons,if_pos a.1,tw_app a.2 h]
theorem ji0{c:UInt8}(h:letter c=true):wordByte c=true:=by unfold wordByte;rw [h];rfl
theorem jk4{c:UInt8}(h:digit c=true):wordByte c=true:=by unfold wordByte;rw [h,Bool.or_true]
theorem jre:∀ n:Fin 256,wordByte (UInt8.ofNat n.val)=true->blank (UInt8.ofNat n.val)=false/\(UInt8.ofNat n.val == 35)=false:=by decide +kernel
theorem jl1{c:UInt8}(h:wordByte c=true):blank c=false/\(c == 35)=false:=by
 have:=jre ⟨c.toNat,c.toNat_lt⟩;rw [UInt8.ofNat_toNat] at this;exact this h
theorem z7{x:Bytes}(h:word x=true):PP x:=λy s k=>by
 cases x with
 | nil=>cases h
 | cons c r =>
  have h:(letter c && (r.all wordByte && decide (r.length<=15)))=true:=h;rw [Bool.and_eq_true,Bool.and_eq_true,decide_eq_true_eq] at h;have a:(c::r).all wordByte=true:=by rw [List.all_cons,ji0 h.1,h.2.1];rfl
  have tw:=tw_app (y:=y) a s;obtain ⟨h6,h7⟩:=jl1 (ji0 h.1);refine .tok (l:=.word (c::r)) (n:=(c::r).length) h6 h7 ?_ (by show AA (((c::r) ++ y).take (c::r).length);rw [List.take_left];exact jwa jp8 a) ?_
  ·show lexAt (c::(r ++ y))=_;unfold lexAt;dsimp only;rw [if_pos h.1];have tw:(c::(r ++ y)).takeWhile wordByte=c::r:=tw
   rw [tw,if_pos (by rw [List.length_cons];omega)]
  ·show Lx (((c::r) ++ y).drop (c::r).length);rw [List.drop_left];exact k
def jqv(x:Bytes):Prop:=x.all digit=true/\x.length<=30/\∃ c r,x=c::r/\(r=[]\/c≠48)
theorem jm5:∀ n:Fin 256,digit (UInt8.ofNat n.val)=true->letter (UInt8.ofNat n.val)=false:=by decide +kernel
theorem j18{x:Bytes}(h:jqv x):PP x:=λy s k=>by
 obtain ⟨a,l,c,r,rfl,z⟩:=h;have dc:digit c=true:=by rw [List.all_cons,Bool.and_eq_true] at a;exact a.1
 have lc:letter c=false:=by
  have:=jm5 ⟨c.toNat,c.toNat_lt⟩;rw [UInt8.ofNat_toNat] at this;exact this dc
 have tw:=tw_app (p:=digit) (y:=y) a λd r' e=>by
  cases hd:digit d with
  | false=>rfl
  | true=>exact absurd (jk4 hd) (by rw [s d r' e];exact Bool.false_ne_true)
 obtain ⟨h6,h7⟩:=jl1 (jk4 dc);refine .tok (l:=.num (natOf (c::r))) (n:=(c::r).length) h6 h7 ?_ (by show AA (((c::r) ++ y).take (c::r).length);rw [List.take_left];exact jwa jpd a) ?_
 ·show lexAt (c::(r ++ y))=_;unfold lexAt;dsimp only;rw [if_neg (by rw [lc];exact Bool.false_ne_true),if_pos dc];have tw:(c::(r ++ y)).takeWhile digit=c::r:=tw
  rw [tw,if_pos];rw [Bool.and_eq_true,decide_eq_true_eq];refine ⟨l,?_⟩;rcases z with z | z
  ·subst z;rfl
  ·have:(c != 48)=true:=by simpa using z
   rw [this,Bool.or_true]
 ·show Lx (((c::r) ++ y).drop (c::r).length);rw [List.drop_left];exact k
theorem jpy:∀ n:Nat,0 < n->∃ c r,Nat.toDigits 10 n=c::r/\c≠'0':=by
 intro n;induction n using Nat.strongRecOn with
 | _ n ih =>
  intro hn;rw [Nat.toDigits_eq_if (by decide)];split
  ·rename_i h;refine ⟨_,_,rfl,?_⟩;have:∀ m:Fin 10,0 < m.val->Nat.digitChar m.val≠'0':=by decide
   exact this ⟨n,h⟩ hn
  ·rename_i h;obtain ⟨c,r,e,z⟩:=ih (n / 10) (Nat.div_lt_self hn (by decide)) (Nat.div_pos (by omega) (by decide));rw [e];exact ⟨c,_,rfl,z⟩
theorem jes(n:Nat):shownNat n=(Nat.toDigits 10 n).map λc=>UInt8.ofNat c.toNat:=by
 unfold shownNat b;have e:(toString n).toList=Nat.toDigits 10 n:=by
  show (Nat.repr n).toList=_;unfold Nat.repr;simp
 rw [e]
theorem jk5{c:Char}(h:c.isDigit=true):digit (UInt8.ofNat c.toNat)=true/\(c≠'0'->UInt8.ofNat c.toNat≠48):=by
 unfold Char.isDigit at h;simp only [Bool.and_eq_true,decide_eq_true_eq] at h;have h1:48<=c.toNat:=h.1
 have h2:c.toNat<=57:=h.2;have e:(UInt8.ofNat c.toNat).toNat=c.toNat:=by rw [UInt8.toNat_ofNat'];exact Nat.mod_eq_of_lt (by omega)
 refine ⟨?_,λz w=>z ?_⟩
 ·unfold digit;rw [Bool.and_eq_true,decide_eq_true_eq,decide_eq_true_eq];refine ⟨?_,?_⟩
  ·show (48:UInt8).toNat<=(UInt8.ofNat c.toNat).toNat;rw [e];exact h1
  ·show (UInt8.ofNat c.toNat).toNat<=(57:UInt8).toNat;rw [e];exact h2
 ·have:c.toNat=48:=by rw [<- e,w];rfl
  exact Char.ext (UInt32.toNat_inj.mp this)
theorem ju7{n:Nat}(h:n < 10 ^ 30):jqv (shownNat n):=by
 have dg:∀ c∈Nat.toDigits 10 n,c.isDigit=true:=λc hc=>Nat.isDigit_of_mem_toDigits (by decide) (by decide) hc;refine ⟨?_,?_,?_⟩
 ·rw [jes,List.all_eq_true];intro x hx;obtain ⟨c,hc,rfl⟩:=List.mem_map.mp hx;exact (jk5 (dg c hc)).1
 ·rw [jes,List.length_map];exact jg9 30 n (by decide) h
 ·rw [jes];by_cases z:n=0
  ·subst z;exact ⟨48,[],by decide,.inl rfl⟩
  ·obtain ⟨c,r,e,w⟩:=jpy n (by omega);rw [e];exact ⟨_,_,rfl,.inr ((jk5 (dg c (by rw [e];exact .head _))).2 w)⟩
theorem jkg{n:Nat}(h:nw n<=1000000):PP (shownNat n):=j18 (ju7 (jom h))
theorem jof{z:Int}(h:nw z.natAbs<=1000000):PP (shownInt z):=by
 unfold shownInt;split
 ·exact (show BB (b "-") from jra (c:=45) (by decide)).appP (jkg h)
 ·exact jkg h
theorem jhv:∀ (s y:Bytes),quotedFrom (s.flatMap shownByte ++ 34::y)=some (s,(s.flatMap shownByte).length + 1)
 | [],y=>by rw [List.flatMap_nil,List.nil_append,quotedFrom];rfl
 | c::s,y=>by
  rw [List.flatMap_cons,List.append_assoc,List.length_append];have ih:=jhv s y
  generalize s.flatMap shownByte=fl at ih ⊢;unfold shownByte;split
  ·rename_i h;have:c=92:=by simpa using h
   subst this;show quotedFrom (92::92::(fl ++ 34::y))=_
   rw [quotedFrom,ih];show some _=some _
   simp;omega
  split
  ·rename_i h;have:c=34:=by simpa using h
   subst this;show quotedFrom (92::34::(fl ++ 34::y))=_
   rw [quotedFrom,ih];show some _=some _
   simp;omega
  split
  ·rename_i h;have:c=10:=by simpa using h
   subst this;show quotedFrom (92::110::(fl ++ 34::y))=_
   rw [quotedFrom,ih];show some _=some _
   simp;omega
  ·rename_i h1 h2 h3;have n1:c≠92:=by simpa using h1
   have n2:c≠34:=by simpa using h2
   have n3:c≠10:=by simpa using h3
   show quotedFrom (c::(fl ++ 34::y))=_;rw [quotedFrom,ih]
   ·show some _=some _;simp;omega
   all_goals intros
   all_goals first | (intro z;cases z;contradiction) | contradiction | skip
theorem jmy{s:Bytes}(hs:s.all allowed=true):BB (shownQuoted s):=λy k=>by
 unfold shownQuoted;rw [List.append_assoc,List.append_assoc];refine .tok (c:=34) (l:=.quoted s) (n:=(s.flatMap shownByte).length + 2) (by decide) (by decide) ?_ (by
  have e:(34::(s.flatMap shownByte ++ ([34] ++ y))).take ((s.flatMap shownByte).length + 2)=34::(s.flatMap shownByte ++ [34]):=by
   show 34::((s.flatMap shownByte ++ ([34] ++ y))).take ((s.flatMap shownByte).length + 1)=_;rw [<- List.append_assoc];have:(s.flatMap shownByte ++ [34]).length=(s.flatMap shownByte).length + 1:=by rw [List.length_append];rfl
   rw [<- this,List.take_left]
  show AA ((34::(s.flatMap shownByte ++ ([34] ++ y))).take _);rw [e];exact jv9 hs) ?_
 ·show lexAt (34::(s.flatMap shownByte ++ 34::y))=_;unfold lexAt;dsimp only;rw [if_neg (by decide),if_neg (by decide),if_pos (by decide),jhv];rfl
 ·have e:(34::(s.flatMap shownByte ++ ([34] ++ y))).drop ((s.flatMap shownByte).length + 2)=y:=by
   show ((s.flatMap shownByte ++ ([34] ++ y))).drop ((s.flatMap shownByte).length + 1)=y;rw [<- List.append_assoc];have:(s.flatMap shownByte ++ [34]).length=(s.flatMap shownByte).length + 1:=by rw [List.length_append];rfl
   rw [<- this,List.drop_left]
  show Lx ((34::(s.flatMap shownByte ++ ([34] ++ y))).drop _);rw [e];exact k
def jfa:Nat->Bytes->Bool
 | 0,_=>false
 | _ + 1,[]=>true
 | n + 1,c::r =>
  if blank c then jfa n r
  else if jwp.contains c then jfa n r
  else if doubleSigns.contains ((c::r).take 2) then jfa n (r.drop 1)
  else if ([61,60,62,43]:List UInt8).contains c then r.head? == some 32 && jfa n (r.drop 1)
  else word ((c::r).takeWhile wordByte) && (((c::r).dropWhile wordByte) != [] && jfa n ((c::r).dropWhile wordByte))
theorem jdo:∀ (n:Nat) (x:Bytes),jfa n x=true->BB x
 | 0,x,h=>by cases h
 | n + 1,[],h=>λy k=>k
 | n + 1,c::r,h=>by
  rw [jfa] at h;split at h
  ·rename_i hb;exact (jpa hb).app (jdo n r h)
  split at h
  ·rename_i hb;exact (jra (by simpa using hb)).app (jdo n r h)
  split at h
  ·rename_i hb;have:(c::r).take 2∈doubleSigns:=by simpa using hb
   have e:c::r=(c::r).take 2 ++ r.drop 1:=by
    cases r with
    | nil=>rfl
    | cons d r=>rfl
   rw [e];exact (jv5 this).app (jdo n _ h)
  split at h
  ·rename_i hb;rw [Bool.and_eq_true] at h;cases r with
   | nil=>simp at h
   | cons d r =>
    have:d=32:=by simpa using h.1
    subst this;exact (show BB ([c,32] ++ r) from (j05 (by simpa using hb)).app (jdo n r h.2))
  ·rw [Bool.and_eq_true,Bool.and_eq_true] at h;have e:c::r=(c::r).takeWhile wordByte ++ (c::r).dropWhile wordByte:=(List.takeWhile_append_dropWhile).symm
   rw [e];refine (z7 h.1).appB ?_ (jdo n _ h.2.2);cases hd:(c::r).dropWhile wordByte with
   | nil=>rw [hd] at h;simp at h
   | cons d q =>
    refine ⟨d,q,rfl,?_⟩;have:=List.head?_dropWhile_not wordByte (c::r)
    rw [hd] at this;simpa using this
theorem lit(s:String)(h:jfa 30 (b s)=true:=by decide +kernel):BB (b s):=jdo 30 _ h
theorem xj(s:String)(h:(match b s with | []=>false | c::_ => !wordByte c)=true:=by decide +kernel):NW (b s):=by
 cases e:b s with
 | nil=>rw [e] at h;cases h
 | cons c r=>rw [e] at h;exact ⟨c,r,rfl,by simpa using h⟩
theorem jaw{x:Bytes}(h:ne x<=200000):word x=true:=by
 unfold ne at h;split at h
 ·assumption
 ·omega
theorem jva:∀ {l:List Bytes},nes l<=200000->∀ x∈l,PP x
 | [],_,x,m=>by cases m
 | y::l,h,x,m=>by
  rw [nes] at h;rcases List.mem_cons.mp m with z | z
  ·subst z;exact z7 (jaw (by omega))
  ·exact jva (l:=l) (by omega) x z
theorem jbv{k:Nat}{e:Expr}{f:Bytes}(h:PP f):PP (put k e f):=by
 unfold put;split
 ·exact (((lit "(").appP h).appB (xj ")") (lit ")")).p
 ·exact h
theorem jbp{g:Bytes}(n:NW g)(hb:BB g):∀ l:List Bytes,(∀ x∈l,PP x)->PP (glue g l)
 | [],_=>juq
 | [x],h=>h x (.head _)
 | x::y::l,h=>((h x (.head _)).appB n hb).appP (jbp n hb (y::l) λz m=>h z (.tail _ m))
theorem jc5{l:List Bytes}(h:∀ x∈l,PP x):BB (shownBlock l):=by
 unfold shownBlock;split
 ·exact lit "{}"
 ·exact ((lit "{ ").appP (jbp (xj " ") (lit " ") l h)).appB (xj " }") (lit " }")
theorem j4c(o:Op):BB (b " " ++ o.sign ++ b " "):=by cases o <;> exact jdo 30 _ (by decide +kernel)
theorem j2q{x y:Bytes}(h:NW x):NW (x ++ y):=by
 obtain ⟨c,r,rfl,w⟩:=h;exact ⟨c,r ++ y,rfl,w⟩
theorem j27(w:Way):BB (w.word ++ b " "):=by cases w <;> exact jdo 30 _ (by decide +kernel)
theorem jzx(p:Prim):PP p.word:=by cases p <;> exact z7 (by decide +kernel)
mutual
theorem vk:∀ e:Expr,ew e<=200000->PP e.form
 | .num n,h=>by rw [ew] at h;rw [Expr.form];exact jkg (by omega)
 | .quoted s,h=>by rw [ew] at h;rw [Expr.form];exact (jmy (jy4 (by omega))).p
 | .truth v,h=>by
  rw [Expr.form];cases v
  ·exact z7 (x:=b "no") (by decide +kernel)
  ·exact z7 (x:=b "yes") (by decide +kernel)
 | .nothing,h=>by rw [Expr.form];exact z7 (x:=b "none") (by decide +kernel)
 | .name x,h=>by rw [ew] at h;rw [Expr.form];exact z7 (jaw (by omega))
 | .list l,h=>by
  rw [ew] at h;rw [Expr.form];exact (((lit "[").appP (jbp (xj ", ") (lit ", ") _ (jko l (by omega)))).appB (xj "]") (lit "]")).p
 | .record .nil,h=>by rw [Expr.form];exact (lit "(:)").p
 | .record (.cons x e l),h=>by
  have hf:=jvh (.cons x e l) (by rw [ew] at h;omega);rw [Fields.forms] at hf;rw [Expr.form];exact (((lit "(").appP (jbp (xj ", ") (lit ", ") _ hf)).appB (xj ")") (lit ")")).p
 | .minus e,h=>by rw [ew] at h;rw [Expr.form];exact (lit "-").appP (jbv (vk e (by omega)))
 | .not e,h=>by rw [ew] at h;rw [Expr.form];exact (lit "not ").appP (jbv (vk e (by omega)))
 | .bin o x y,h=>by
  rw [ew] at h;rw [Expr.form];have e:put o.left x x.form ++ b " " ++ o.sign ++ b " " ++ put o.right y y.form=put o.left x x.form ++ (b " " ++ o.sign ++ b " ") ++ put o.right y y.form:=by simp only [List.append_assoc]
  rw [e];exact ((jbv (vk x (by omega))).appB (by rw [List.append_assoc];exact j2q (xj " ")) (j4c o)).appP (jbv (vk y (by omega)))
 | .pick c x y,h=>by
  rw [ew] at h;rw [Expr.form];exact ((((jbv (vk c (by omega))).appB (xj " ? ") (lit " ? ")).appP (jbv (vk x (by omega)))).appB (xj " : ") (lit " : ")).appP (jbv (vk y (by omega)))
 | .call f l,h=>by
  rw [ew] at h;rw [Expr.form];exact ((((jbv (vk f (by omega))).appB (xj "(") (lit "(")).appP (jbp (xj ", ") (lit ", ") _ (jko l (by omega)))).appB (xj ")") (lit ")")).p
 | .index l i,h=>by
  rw [ew] at h;rw [Expr.form];exact ((((jbv (vk l (by omega))).appB (xj "[") (lit "[")).appP (vk i (by omega))).appB (xj "]") (lit "]")).p
 | .field r x,h=>by
  rw [ew] at h;rw [Expr.form];exact ((jbv (vk r (by omega))).appB (xj ".") (lit ".")).appP (z7 (jaw (by omega)))
 | .prim p l,h=>by
  rw [ew] at h;rw [Expr.form];exact ((((jzx p).appB (xj "(") (lit "(")).appP (jbp (xj ", ") (lit ", ") _ (jko l (by omega)))).appB (xj ")") (lit ")")).p
 | .fn own ps s,h=>by
  rw [ew] at h;rw [Expr.form];have ho:PP (own.getD []):=by
   cases own with
   | none=>exact juq
   | some x=>rw [ow] at h;exact z7 (x:=x) (jaw (by omega))
  exact (((((((lit "fn ").appP ho).appB (xj "(") (lit "(")).appP (jbp (xj ", ") (lit ", ") _ (jva (by omega)))).appB (xj ") ") (lit ") "))).app (jc5 (jdp s (by omega)))).p
theorem jko:∀ l:Exprs,esw l<=200000->∀ x∈l.forms,PP x
 | .nil,h,x,m=>by rw [Exprs.forms] at m;cases m
 | .cons e l,h,x,m=>by
  rw [esw] at h;rw [Exprs.forms] at m;rcases List.mem_cons.mp m with z | z
  ·subst z;exact vk e (by omega)
  ·exact jko l (by omega) x z
theorem jvh:∀ l:Fields,fsw l<=200000->∀ x∈l.forms,PP x
 | .nil,h,x,m=>by rw [Fields.forms] at m;cases m
 | .cons y e l,h,x,m=>by
  rw [fsw] at h;rw [Fields.forms] at m;rcases List.mem_cons.mp m with z | z
  ·subst z;exact ((z7 (jaw (by omega))).appB (xj ": ") (lit ": ")).appP (vk e (by omega))
  ·exact jvh l (by omega) x z
theorem j31:∀ s:Stmt,sw1 s<=200000->PP s.form
 | .leta x e,h=>by
  rw [sw1] at h;rw [Stmt.form];exact (((((lit "let ").appP (z7 (jaw (by omega)))).appB (xj " = ") (lit " = ")).appP (vk e (by omega))).appB (xj ";") (lit ";")).p
 | .seta x e,h=>by
  rw [sw1] at h;rw [Stmt.form];exact (((((lit "set ").appP (z7 (jaw (by omega)))).appB (xj " = ") (lit " = ")).appP (vk e (by omega))).appB (xj ";") (lit ";")).p
 | .way w e,h=>by
  rw [sw1] at h;rw [Stmt.form];exact (((j27 w).appP (vk e (by omega))).appB (xj ";") (lit ";")).p
 | .iff c x,h=>by
  rw [sw1] at h;rw [Stmt.form];exact ((((lit "if ").appP (vk c (by omega))).appB (xj " ") (lit " ")).app (jc5 (jdp x (by omega)))).p
 | .iffElse c x y,h=>by
  rw [sw1] at h;rw [Stmt.form];exact ((((((lit "if ").appP (vk c (by omega))).appB (xj " ") (lit " ")).app (jc5 (jdp x (by omega)))).app (lit " else ")).app (jc5 (jdp y (by omega)))).p
 | .while_ c x,h=>by
  rw [sw1] at h;rw [Stmt.form];exact ((((lit "while ").appP (vk c (by omega))).appB (xj " ") (lit " ")).app (jc5 (jdp x (by omega)))).p
 | .for x e l,h=>by
  rw [sw1] at h;rw [Stmt.form];exact ((((((lit "for ").appP (z7 (jaw (by omega)))).appB (xj " in ") (lit " in ")).appP (vk e (by omega))).appB (xj " ") (lit " ")).app (jc5 (jdp l (by omega)))).p
 | .slider x v lo hi,h=>by
  rw [sw1] at h;rw [Stmt.form];exact (((((((((lit "slider ").appP (z7 (jaw (by omega)))).appB (xj " = ") (lit " = ")).appP (jof (by omega))).appB (xj " in ") (lit " in ")).appP (jof (by omega))).appB (xj ", ") (lit ", ")).appP (jof (by omega))).appB (xj ";") (lit ";")).p
 | .choice x v l,h=>by
  rw [sw1] at h;rw [Stmt.form];exact (((((((lit "choice ").appP (z7 (jaw (by omega)))).appB (xj " = ") (lit " = ")).appP (jkg (by omega))).appB (xj " in ") (lit " in ")).appP (jbp (xj ", ") (lit ", ") _ λz m=>by
   obtain ⟨q,hq,rfl⟩:=List.mem_map.mp m;exact (jmy (ju8 (by omega) q hq)).p)).appB (xj ";") (lit ";")).p
theorem jdp:∀ l:Stmts,ssw l<=200000->∀ x∈l.forms,PP x
 | .nil,h,x,m=>by rw [Stmts.forms] at m;cases m
 | .cons s l,h,x,m=>by
  rw [ssw] at h;rw [Stmts.forms] at m;rcases List.mem_cons.mp m with z | z
  ·subst z;exact j31 s (by omega)
  ·exact jdp l (by omega) x z
end
theorem jpz{s:Stmts}(h:ssw s<=200000):(∃ ts,tokens s.form = .ok ts)/\s.form.findIdx? (λc => !allowed c)=none:=by
 have:=jbp (g:=[10]) ⟨10,[],rfl,by decide⟩ (jpa (c:=10) rfl) s.forms (jdp s h) [] (λ_ _ e=>by cases e) .nil;rw [List.append_nil] at this;refine ⟨this.tokens,?_⟩;rw [List.findIdx?_eq_none_iff];intro c hc;have:=List.all_eq_true.mp this.al c hc
 rw [this];rfl
end Cell
end
section
set_option maxRecDepth 100000
set_option maxHeartbeats 4000000
namespace Prg
open PySem L2
open Vanbka (Bytes glue Exprs Fields Stmts Count)
abbrev jj_:PySem.Stmt:=top 122
theorem jry{t:Bytes}{s:Stmts}(h:Vanbka.read t = .ok s):t.findIdx? (λc => !Vanbka.allowed c)=none/\∃ ts,Vanbka.tokens t = .ok ts:=by
 unfold Vanbka.read at h;split at h
 ·cases h
 ·rename_i hf;split at h
  ·cases h
  ·rename_i ts e;exact ⟨hf,ts,e⟩
theorem ji5{t:Bytes}{ts:qb}(h:Vanbka.tokens t = .ok ts):Vanbka.brackets t=(ts.filter λk=>Vanbka.opening k.lex).length:=by
 unfold Vanbka.brackets;rw [h]
section
variable{P:Program}{w:World}{K:W.Frag}{mg:Str->Option Value}{base:Heap}{D:Ad}
theorem jvz{H H2:Hp}:jg (ay noH H H2) H2:=λb o e=>by
 rcases jak e with z | ⟨_,_,z⟩
 ·cases z
 ·exact z
theorem jqf:jv ["text", "program", "in_text", "in_form"] ["text"] (jj jj_):=fs_
theorem jxh{f fI:Addr}{fd au:FuncData}(F:Fun K "weigh" "weigh" jj_ f fd)(T:v8 K mg D.CF fI au)(GL:ax P w K mg base 1 "is_too_long" ["text"] (jnm K))(G:ax P w K mg base 506 "read_good" ["text"] (jj6 K D))(GP:ax P w K mg base 206 "write_program" ["statements"] (bg (RP K D)))
  (GR:ax P w K mg base 6 "read_tokens" ["text"] (jih K D.CF D.CT)) (GO:ax P w K mg base 1 "count_opening" ["tokens"] (jwo D)) (GC:ax P w K mg base 1 "count_trees" ["program"] (jwn K D)) (GG:ax P w K mg base 1 "greatest_depth" ["trees"] (jej K D.CN)) (c2:CI mg "TOO_LONG" (-1)) (c3:CI mg "NOT_GOOD" (-2)) :
  xb P w K mg base (CXF P w) 507 f fd ["text"] (spT K Vanbka.weighTold):=by
 refine F.okF (k:=506) jqf (λvs H Q E h=>?_) (λac A outer s H vs Q E hr h=>?_)
 ·obtain ⟨a,t,rfl,_⟩:=h;rfl
 obtain ⟨a,t,rfl,hS,q⟩:=h;have nd:=jqf.nd
 obtain ⟨gf,gfd,gF,gb,gk,gm⟩:=G;refine ⟨_,(jc (qi (jez (jh GL hr rfl (ja (pv 0) jb))) (je (jp (j5 (ja (qz c2 rfl) jb)))) j3)
   (jc (jzw (tb:=λEB=>ji8 (ym (jj6 K D) [] EB (qk (qy 0) xh)) (ja7 1)) (ts:=jge (jhg (qk (tC (.int (-2))) xh))) rfl rfl rfl rfl T.m T.x (λ_ _ _ hp=>(je (ju (i:=1) nd rfl (Or.inl rfl) (v7 gF hr rfl gm gk gb .nil hp (ja (pv 0) jb))))) (λ_ _=>(je (jp (j5 (ja (qz c3 rfl) jb))))))
   (jc (ju (i:=2) nd rfl (Or.inl rfl) (jh GO hr rfl (ja (jh GR hr rfl (ja (pv 0) jb)) jb)))
   (jc (ju (i:=3) nd rfl (Or.inl rfl) (jh GO hr rfl (ja (jh GR hr rfl (ja (jh GP hr rfl (ja (pv 1) jb)) jb)) jb)))
   (je (jp (qa qh (qa qh (j5 (ja (jh GG hr rfl (ja (pv 1) jb)) jb)) (jh GC hr rfl (ja (pv 1) jb))) (j5 (ja (pv 2) (ja (pv 3) jb)))))))))),?_⟩
 unfold Vanbka.weighTold Vanbka.withProgram at q;refine ⟨_,rfl,a,t,rfl,hS,_,rfl,qd (λc=>?_) (λc=>?_)⟩
 ·rw [if_pos (ot_ c)] at q;exact ⟨(by show 1<=2 ^ 24;decide),λl nl=>q l _ jd⟩
 have c:¬ Vanbka.LONGEST < t.length:=λz=>c (dt_ z);rw [if_neg c] at q;have ak:t.length<=600:=by unfold Vanbka.LONGEST at c;omega
 cases hr':Vanbka.read t with
 | error e =>
  rw [hr'] at q;refine ⟨λC' dxo H'=>∃ dx,C' = .ref D.CF/\dxo=some dx,⟨_,rfl,a,t,rfl,hS,ak,?_⟩,?_⟩
  ·rw [hr'];exact λdx H' hx=>⟨dx,rfl,rfl⟩
  ·rintro C' dxo H' ⟨dx,rfl,rfl⟩;exact ⟨rfl,dx,rfl,λσ' H2 hl sm=>⟨(by show 1<=2 ^ 24;decide),λl nl=>q l _ jd⟩⟩
 | ok ss =>
  rw [hr'] at q;have q:∀ l H',H' l=some (.lst (([(ss.depth:Int),(ss.counts.stmts:Int),(ss.counts.exprs:Int),(Vanbka.brackets t:Int),(Vanbka.brackets ss.form:Int)]:List Int).map V.int))->Q (.ref l) H':=q
  obtain ⟨w1,d1⟩:=Cell.j10 hr' ak;obtain ⟨hf,ts,ht⟩:=jry hr';obtain ⟨⟨us,hu⟩,hfu⟩:=Cell.jpz w1;rw [ji5 ht,ji5 hu] at q;have fl:=Cell.ja1 ss
  have gl:=Cell.z8 (g:=[10]) (by decide) ss.forms;have lt:ts.length<=t.length:=jgd _ _ _ _ ht
  have lu:us.length<=ss.form.length:=jgd _ _ _ _ hu;have lf:ss.form.length<=900000:=by show (glue [10] ss.forms).length<=900000;omega
  refine ⟨λ_ _ _=>False,⟨_,rfl,a,t,rfl,hS,ak,?_⟩,λ_ _ _ z=>z.elim⟩;rw [hr'];intro v H1 s1 rp;obtain ⟨pa,ua,rfl,hp,lp,hN⟩:=rp;have ln:=ji.len _ _ hN
  refine ⟨_,rfl,a,t,rfl,s1.seq hS,by omega,?_⟩;rw [hf,ht];intro l2 H2 s2 tk2;refine ⟨l2,ts,rfl,jd0.same jvz tk2,jhf _ _ _ _ ht,by omega,λH3 s3=>?_⟩;refine NT.call (R:=RP K D) (AT.tree rfl λH4 s4=>⟨ss,pa,ua,rfl,az.of (s4 _ _ ((s2.trans s3) _ _ hp)),by omega,ji.same ((s2.trans s3).trans s4) _ _ hN,d1,(by unfold MW;omega),rfl⟩) H3 (jg.refl _) _ λp H4 s4 n4 e4=>?_;refine ⟨p,ss.form,rfl,az.of e4,lf,?_⟩;rw [hfu,hu];intro l5 H5 s5 tk5;refine ⟨l5,us,rfl,jd0.same jvz tk5,jhf _ _ _ _ hu,by omega,λH6 s6=>?_⟩;have s16:jg H1 H6:=(s2.trans s3).trans (s4.trans (s5.trans s6))
  refine ⟨_,rfl,pa,ua,xk ss,rfl,az.of (s16 _ _ hp),ji.same s16 _ _ hN,by omega,λH7 s7=>⟨(by show 1<=2 ^ 24;decide),λl8 m8=>?_⟩⟩;have s18:jg H1 (upd H7 l8 (.lst [.int ((qj (xk ss):Nat):Int)])):=(s16.trans s7).trans (jo m8 _)
  refine ⟨_,rfl,pa,ua,xk ss,rfl,s18 _ _ hp,ji.same s18 _ _ hN,Nat.le_trans (j00 ss) (by omega),λp9 H9 s9 e9=>?_⟩;refine ⟨l8,p9,_,_,rfl,rfl,s9 _ _ jd,e9,(by show 1 + 2<=2 ^ 24;decide),λp10 m10=>?_⟩;refine ⟨_,rfl,_,rfl,(by show 2<=2 ^ 24;decide),λl11 m11=>⟨p10,l11,_,_,rfl,rfl,(jo m11 _) _ _ jd,jd,(by show 3 + 2<=2 ^ 24;decide),λp12 m12=>q p12 _ ?_⟩⟩;rw [jd,jaq,jq9,jq_];rfl
end
end Prg
end
section
set_option maxRecDepth 100000
set_option maxHeartbeats 2000000
namespace L2
open PySem PySem.Spec PyProof.Rows
open PySem.W (WData Codec OpenSpec Well WellAll ReadsW ReadsAllW)
mutual
inductive Dw(K:W.Frag)(H:Hp):V->WData->Prop
 | non:Dw K H .non .none
 | bl (b:Bool):Dw K H (.bl b) (.bool b)
 | int (i:Int):Dw K H (.int i) (.int i)
 | str (x:Str):Dw K H (.str x) (.str x)
 | byt (b:Array UInt8):Dw K H (.byt b) (.bytes b.toList)
 | lst {a:Addr} {xs:List V} {ds:List WData}:az K H a xs->jcu K H xs ds->Dw K H (.ref a) (.list ds)
 | tup {a:Addr} {xs:List V} {ds:List WData}:be K H a xs->jcu K H xs ds->Dw K H (.ref a) (.tuple ds)
inductive jcu(K:W.Frag)(H:Hp):List V->List WData->Prop
 | nil:jcu K H [] []
 | cons {v:V} {vs:List V} {d:WData} {ds:List WData}:Dw K H v d->jcu K H vs ds->jcu K H (v::vs) (d::ds)
end
theorem jq3{K:W.Frag}{H:Hp}:∀ ns:List Int,jcu K H (ns.map V.int) (ns.map WData.int)
 | []=>.nil
 | n::r=>.cons (.int n) (jq3 r)
theorem jq1{K:W.Frag}{H:Hp}:∀ (ns:List Int) (xs:List V),jcu K H xs (ns.map WData.int)->xs=ns.map V.int
 | [],xs,h=>by
  cases h;rfl
 | n::r,xs,h=>by
  cases h with
  | cons h1 h2 =>
   cases h1;rw [jq1 r _ h2] <;> rfl
section
variable{P:Program}{w:World}{K:W.Frag}{H:Hp}{h:Heap}{R:PySem.W.WRecords}{cl:Str->Option Addr}
theorem j1f{a:Addr}{xs:List V}(hok:HOk P w H h)(KX:K.In h)(q:az K H a xs):∃ (ad:List Value) (o:Obj) (n:Nat),qw xs ad/\h.get? a=some o/\o.cls = .type "list"/\o.data = .seq ad.toArray n:=by
 rcases q with q | ⟨o,ad,n,e,hc,_,hd,_,hv⟩
 ·obtain ⟨_,ad,n,hv,e⟩:=(show y_ P w H h a (.lst xs) from q.ok hok)
  exact ⟨ad,_,n,hv,e,rfl,rfl⟩
 ·exact ⟨ad.toList,o,n,hv,KX _ _ e,hc,by simp [hd]⟩
theorem j1e{a:Addr}{xs:List V}(hok:HOk P w H h)(KX:K.In h)(q:be K H a xs):∃ (ad:List Value) (o:Obj) (n:Nat),qw xs ad/\h.get? a=some o/\o.cls = .type "tuple"/\o.data = .seq ad.toArray n:=by
 rcases q with q | ⟨o,ad,n,e,hc,hd,_,hv⟩
 ·obtain ⟨_,ad,hv,o,e,hc,n,hd⟩:=(show y_ P w H h a (.tup xs) from q.ok hok)
  exact ⟨ad,o,n,hv,e,hc,hd⟩
 ·exact ⟨ad.toList,o,n,hv,KX _ _ e,hc,by simp [hd]⟩
mutual
theorem Dw.reads(hok:HOk P w H h)(KX:K.In h):∀ (d:WData) (v:V) (u:Value),Dw K H v d->xm v u->∃ as,ReadsW R cl h u d as
 | .none,_,_,x,r=>by
  cases x;cases r;exact ⟨_,ReadsW.none⟩
 | .bool b,_,_,x,r=>by
  cases x;cases r;exact ⟨_,ReadsW.bool b⟩
 | .int i,_,_,x,r=>by
  cases x;obtain ⟨t,rfl⟩:=r;exact ⟨_,ReadsW.int i t⟩
 | .str s,_,_,x,r=>by
  cases x;obtain ⟨t,rfl⟩:=r;exact ⟨_,ReadsW.str s t⟩
 | .bytes b,_,_,x,r=>by
  cases x;obtain ⟨t,rfl⟩:=r;exact ⟨_,ReadsW.bytes _ t⟩
 | .list ds,_,_,x,r=>by
  cases x with
  | lst hs ha =>
   cases r;obtain ⟨ad,o,n,rv,ho,hc,hd⟩:=j1f hok KX hs;obtain ⟨as,hr⟩:=Dw.readsAll hok KX ds _ ad ha rv;exact ⟨_,ReadsW.list ho hc hd hr⟩
 | .tuple ds,_,_,x,r=>by
  cases x with
  | tup hs ha =>
   cases r;obtain ⟨ad,o,n,rv,ho,hc,hd⟩:=j1e hok KX hs;obtain ⟨as,hr⟩:=Dw.readsAll hok KX ds _ ad ha rv;exact ⟨_,ReadsW.tuple ho hc hd hr⟩
 | .float _,_,_,x,_=>by cases x
 | .dict _,_,_,x,_=>by cases x
 | .bytearray _,_,_,x,_=>by cases x
 | .set _,_,_,x,_=>by cases x
 | .frozenset _,_,_,x,_=>by cases x
 | .obj _ _,_,_,x,_=>by cases x
theorem Dw.readsAll(hok:HOk P w H h)(KX:K.In h):∀ (ds:List WData) (vs:List V) (us:List Value),jcu K H vs ds->qw vs us->∃ as,ReadsAllW R cl h us ds as
 | [],_,_,x,r=>by
  cases x;cases r;exact ⟨_,ReadsAllW.nil⟩
 | d::ds,_,_,x,r=>by
  cases x with
  | cons h1 h2 =>
   cases r with
   | cons r1 r2 =>
    obtain ⟨as,q1⟩:=Dw.reads hok KX d _ _ h1 r1;obtain ⟨bs,q2⟩:=Dw.readsAll hok KX ds _ _ h2 r2;exact ⟨_,ReadsAllW.cons q1 q2⟩
end
end
mutual
def plW:WData->Bool
 | .none=>true
 | .bool _=>true
 | .int _=>true
 | .str _=>true
 | .bytes _=>true
 | .list xs=>jdy xs
 | .tuple xs=>jdy xs
 | _=>false
def jdy:List WData->Bool
 | []=>true
 | x::r=>plW x && jdy r
end
theorem jog{α:Type}{f:α->WData}(h:∀ a,plW (f a)=true):∀ l:List α,jdy (l.map f)=true
 | []=>rfl
 | x::r=>by
  show (plW (f x) && jdy (r.map f))=true;rw [h x,jog h r] <;> rfl
theorem jdn:∀ (c:Codec) (a:c.denote),plW (c.enc a)=true
 | .unit,_=>rfl
 | .bool,_=>rfl
 | .int _ _,_=>rfl
 | .nat _ _,_=>rfl
 | .u8,_=>rfl
 | .bytes _ _,_=>rfl
 | .text _ _ _ _,_=>rfl
 | .list _ _ c,a=>jog (λx=>jdn c x) a
 | .pair c d,a=>by
  show (plW (c.enc a.1) && (plW (d.enc a.2) && true))=true;rw [jdn c a.1,jdn d a.2] <;> rfl
 | .triple c d e,a=>by
  show (plW (c.enc a.1) && (plW (d.enc a.2.1) && (plW (e.enc a.2.2) && true)))=true;rw [jdn c a.1,jdn d a.2.1,jdn e a.2.2] <;> rfl
 | .option c,none=>rfl
 | .option c,some x=>jdn c x
theorem jmg:∀ (cs:List Codec) (a:Codec.denoteAll cs),jdy (Codec.encAll cs a)=true
 | [],_=>rfl
 | c::cs,a=>by
  show (plW (c.enc a.1) && jdy (Codec.encAll cs a.2))=true;rw [jdn c a.1,jmg cs a.2] <;> rfl
theorem jgb:∀ {xs:List WData} {d:WData},d∈xs->d.weight<=WData.weightAll xs
 | [],d,h=>absurd h (by simp)
 | x::r,d,h=>by
  show d.weight<=x.weight + 1 + WData.weightAll r;rcases List.mem_cons.mp h with e | m
  ·rw [e];omega
  ·have z:=jgb m;omega
def toV:Value->V
 | .none=>.non
 | .bool b=>.bl b
 | .int i _=>.int i
 | .str x _=>.str x
 | .bytes b _=>.byt b
 | .ref a=>.ref a
 | _=>.non
def OkU(A:List Addr):Value->Prop
 | .none=>True
 | .bool _=>True
 | .int _ _=>True
 | .str _ _=>True
 | .bytes _ _=>True
 | .ref a=>a∈A
 | _=>False
theorem OkU.mono{A B:List Addr}(h:∀ a∈A,a∈B):∀ {u:Value},OkU A u->OkU B u:=λ{u} x=>by
 cases u with
 | ref a=>exact h a x
 | none=>trivial
 | bool b=>trivial
 | int i t=>trivial
 | str s t=>trivial
 | bytes b t=>trivial
 | _=>exact False.elim x
theorem jwy{A:List Addr}{u:Value}(x:OkU A u):xm (toV u) u:=by
 cases u with
 | ref a=>rfl
 | none=>rfl
 | bool b=>rfl
 | int i t=>exact ⟨t,rfl⟩
 | str s t=>exact ⟨t,rfl⟩
 | bytes b t=>exact ⟨t,rfl⟩
 | _=>exact False.elim x
theorem jcv{A:List Addr}:∀ {vs:List Value},(∀ u∈vs,OkU A u)->qw (vs.map toV) vs
 | [],_=>.nil
 | u::r,h=>.cons (jwy (h u (List.mem_cons_self ..))) (jcv λx hx=>h x (List.mem_cons_of_mem _ hx))
def jb5(h:Heap)(A:List Addr)(a:Addr):Prop:=∃ vs:List Value,vs.length<=sizeLine/\(∀ u∈vs,OkU A u)/\
 (h.get? a=some { cls:=.type "list",data:=.seq vs.toArray }\/h.get? a=some { cls:=.type "tuple",data:=.seq vs.toArray })
theorem jb5.mono{h:Heap}{A B:List Addr}{a:Addr}(k:∀ a∈A,a∈B)(x:jb5 h A a):jb5 h B a:=by
 obtain ⟨vs,h1,h2,h3⟩:=x;exact ⟨vs,h1,λu hu=>(h2 u hu).mono k,h3⟩
theorem jc6{P:Params}{h:Heap}:∀ {vs:List Value} {ds:List WData},WellAll P h vs ds->vs.length=ds.length
 | _,_,.nil=>rfl
 | _,_,.cons _ b=>by
  show _ + 1=_ + 1;rw [jc6 b]
theorem jl2{P:Params}{h:Heap}{v:Value}{ds:List WData}(x:Well P h v (.list ds)):∃ (a:Addr) (vs:List Value),v = .ref a/\h.get? a=some { cls:=.type "list",data:=.seq vs.toArray }/\WellAll P h vs ds:=by
 cases x with
 | list ho hall=>exact ⟨_,_,rfl,ho,hall⟩
theorem jjy{P:Params}{h:Heap}{v:Value}{ds:List WData}(x:Well P h v (.tuple ds)):∃ (a:Addr) (vs:List Value),v = .ref a/\h.get? a=some { cls:=.type "tuple",data:=.seq vs.toArray }/\WellAll P h vs ds:=by
 cases x with
 | tuple ho hall=>exact ⟨_,_,rfl,ho,hall⟩
theorem jl3{P:Params}{h:Heap}{us:List Value}{d:WData}{ds:List WData}(x:WellAll P h us (d::ds)):∃ (v:Value) (vs:List Value),us=v::vs/\Well P h v d/\WellAll P h vs ds:=by
 cases x with
 | cons a b=>exact ⟨_,_,rfl,a,b⟩
theorem jqy{n:Nat}(h:n<=1048576):n<=sizeLine:=Nat.le_trans h (by decide)
section
variable{P:Params}{h:Heap}
mutual
theorem jyj:∀ (d:WData) (v:Value),Well P h v d->plW d=true->d.weight<=1048576->∃ A:List Addr,OkU A v/\∀ a∈A,jb5 h A a
 | .none,_,x,_,_=>by
  cases x;exact ⟨[],trivial,λa m=>absurd m (by simp)⟩
 | .bool b,_,x,_,_=>by
  cases x;exact ⟨[],trivial,λa m=>absurd m (by simp)⟩
 | .int i,_,x,_,_=>by
  cases x;exact ⟨[],trivial,λa m=>absurd m (by simp)⟩
 | .str s,_,x,_,_=>by
  cases x;exact ⟨[],trivial,λa m=>absurd m (by simp)⟩
 | .bytes b,_,x,_,_=>by
  cases x;exact ⟨[],trivial,λa m=>absurd m (by simp)⟩
 | .list ds,_,x,p,z=>by
  obtain ⟨a,vs,rfl,ho,hall⟩:=jl2 x;have z2:WData.weightAll ds<=1048576:=z
  obtain ⟨A,h1,h2⟩:=jha ds _ hall p λd hd=>Nat.le_trans (jgb hd) z2;have k:∀ b∈A,b∈a::A:=λb hb=>List.mem_cons_of_mem _ hb
  refine ⟨a::A,List.mem_cons_self ..,λb hb=>?_⟩;rcases List.mem_cons.mp hb with e | m
  ·rw [e];exact ⟨vs,jqy (by rw [jc6 hall];exact Nat.le_trans (PySem.W.length_le_weightAllW ds) z2),λu hu=>(h1 u hu).mono k,.inl ho⟩
  ·exact (h2 b m).mono k
 | .tuple ds,_,x,p,z=>by
  obtain ⟨a,vs,rfl,ho,hall⟩:=jjy x;have z2:WData.weightAll ds<=1048576:=z
  obtain ⟨A,h1,h2⟩:=jha ds _ hall p λd hd=>Nat.le_trans (jgb hd) z2;have k:∀ b∈A,b∈a::A:=λb hb=>List.mem_cons_of_mem _ hb
  refine ⟨a::A,List.mem_cons_self ..,λb hb=>?_⟩;rcases List.mem_cons.mp hb with e | m
  ·rw [e];exact ⟨vs,jqy (by rw [jc6 hall];exact Nat.le_trans (PySem.W.length_le_weightAllW ds) z2),λu hu=>(h1 u hu).mono k,.inr ho⟩
  ·exact (h2 b m).mono k
 | .float _,_,_,p,_=>Bool.noConfusion (show false=true from p)
 | .dict _,_,_,p,_=>Bool.noConfusion (show false=true from p)
 | .bytearray _,_,_,p,_=>Bool.noConfusion (show false=true from p)
 | .set _,_,_,p,_=>Bool.noConfusion (show false=true from p)
 | .frozenset _,_,_,p,_=>Bool.noConfusion (show false=true from p)
 | .obj _ _,_,_,p,_=>Bool.noConfusion (show false=true from p)
theorem jha:∀ (ds:List WData) (vs:List Value),WellAll P h vs ds->jdy ds=true->(∀ d∈ds,d.weight<=1048576)->∃ A:List Addr,(∀ u∈vs,OkU A u)/\∀ a∈A,jb5 h A a
 | [],_,x,_,_=>by
  cases x;exact ⟨[],λu m=>absurd m (by simp),λa m=>absurd m (by simp)⟩
 | d::ds,_,x,p,z=>by
  obtain ⟨v,vs,rfl,x1,x2⟩:=jl3 x;have q:plW d=true/\jdy ds=true:=Bool.and_eq_true_iff.mp p
  obtain ⟨A,a1,a2⟩:=jyj d v x1 q.1 (z d (List.mem_cons_self ..));obtain ⟨B,b1,b2⟩:=jha ds vs x2 q.2 λe he=>z e (List.mem_cons_of_mem _ he);have kA:∀ b∈A,b∈A ++ B:=λb hb=>List.mem_append.mpr (.inl hb)
  have kB:∀ b∈B,b∈A ++ B:=λb hb=>List.mem_append.mpr (.inr hb);refine ⟨A ++ B,λu hu=>?_,λb hb=>?_⟩
  ·rcases List.mem_cons.mp hu with e | m
   ·rw [e];exact a1.mono kA
   ·exact (b1 u m).mono kB
  ·rcases List.mem_append.mp hb with m | m
   ·exact (a2 b m).mono kA
   ·exact (b2 b m).mono kB
end
end
def jsz(o:Obj):Option HO:=match o.data with
 | .seq vs _=>if (o.cls == Value.type "list")=true then some (.frz o (.lst (vs.toList.map toV))) else some (.frz o (.tup (vs.toList.map toV)))
 | _=>none
def jar(K:W.Frag)(h:Heap)(A:List Addr):Hp:=λb=>if b∈A then (if (K.lookup b).isNone=true then (h.get? b).bind jsz else none) else none
def jna(H:Hp):Prop:=∀ b,H b=none\/∃ o u,H b=some (.frz o u)
theorem jov(vs:List Value):jsz { cls:=.type "list",data:=.seq vs.toArray }=some (.frz { cls:=.type "list",data:=.seq vs.toArray } (.lst (vs.map toV))):=by
 show (if (Value.type "list" == Value.type "list")=true then some (HO.frz { cls:=.type "list",data:=.seq vs.toArray } (.lst (vs.toArray.toList.map toV))) else some (HO.frz { cls:=.type "list",data:=.seq vs.toArray } (.tup (vs.toArray.toList.map toV))))=_;rw [if_pos (beq_self_eq_true _)]
theorem jou(vs:List Value):jsz { cls:=.type "tuple",data:=.seq vs.toArray }=some (.frz { cls:=.type "tuple",data:=.seq vs.toArray } (.tup (vs.map toV))):=by
 show (if (Value.type "tuple" == Value.type "list")=true then some (HO.frz { cls:=.type "tuple",data:=.seq vs.toArray } (.lst (vs.toArray.toList.map toV))) else some (HO.frz { cls:=.type "tuple",data:=.seq vs.toArray } (.tup (vs.toArray.toList.map toV))))=_;rw [if_neg (by decide)]
section
variable{P:Program}{w:World}{K:W.Frag}{h:Heap}{A:List Addr}
theorem jix{b:Addr}{o:Obj}(hb:b∈A)(hk:K.lookup b=none)(e:h.get? b=some o):jar K h A b=jsz o:=by
 unfold jar;rw [if_pos hb,hk,if_pos (show (none:Option Obj).isNone=true from rfl),e] <;> rfl
theorem j0n{b:Addr}{u:HO}(q:jar K h A b=some u):b∈A/\K.lookup b=none:=by
 unfold jar at q;by_cases hb:b∈A
 ·rw [if_pos hb] at q;cases hk:K.lookup b with
  | none=>exact ⟨hb,rfl⟩
  | some o =>
   rw [hk,if_neg (by simp)] at q;cases q
 ·rw [if_neg hb] at q;cases q
theorem jiw(ar:∀ a∈A,jb5 h A a){b:Addr}{u:HO}(q:jar K h A b=some u):K.lookup b=none/\∃ vs:List Value,vs.length<=sizeLine/\(∀ u∈vs,OkU A u)/\
  ((h.get? b=some { cls:=.type "list",data:=.seq vs.toArray }/\u = .frz { cls:=.type "list",data:=.seq vs.toArray } (.lst (vs.map toV)))\/
  (h.get? b=some { cls:=.type "tuple",data:=.seq vs.toArray }/\u = .frz { cls:=.type "tuple",data:=.seq vs.toArray } (.tup (vs.map toV)))):=by
 obtain ⟨hb,hk⟩:=j0n q;obtain ⟨vs,h1,h2,h3⟩:=ar b hb;refine ⟨hk,vs,h1,h2,?_⟩;rcases h3 with e | e
 ·rw [jix hb hk e,jov] at q;exact .inl ⟨e,(Option.some.inj q).symm⟩
 ·rw [jix hb hk e,jou] at q;exact .inr ⟨e,(Option.some.inj q).symm⟩
theorem jv6(ar:∀ a∈A,jb5 h A a):jna (jar K h A):=λb=>by
 cases q:jar K h A b with
 | none=>exact .inl rfl
 | some u =>
  obtain ⟨_,vs,_,_,⟨_,e⟩ | ⟨_,e⟩⟩:=jiw ar q
  ·exact .inr ⟨_,_,by rw [e]⟩
  ·exact .inr ⟨_,_,by rw [e]⟩
theorem j07(ar:∀ a∈A,jb5 h A a):HOk P w (jar K h A) h:=λb u q=>by
 obtain ⟨_,vs,h1,h2,⟨e,rfl⟩ | ⟨e,rfl⟩⟩:=jiw ar q
 ·exact ⟨e,by rw [List.length_map];exact h1,vs,_,jcv h2,e⟩
 ·exact ⟨e,by rw [List.length_map];exact h1,vs,jcv h2,_,e,rfl,_,rfl⟩
theorem jii{c c':Value}{vs us:List Value}(e:(some { cls:=c,data:=.seq vs.toArray }:Option Obj)=some { cls:=c',data:=.seq us.toArray }):c=c'/\vs=us:=by
 have e1:=Option.some.inj e;have e2:c=c':=congrArg Obj.cls e1
 have e3:Data.seq vs.toArray=Data.seq us.toArray:=congrArg Obj.data e1;injection e3 with e4;refine ⟨e2,?_⟩;have e5:=congrArg Array.toList e4
 simpa using e5
theorem j45(KX:K.In h)(ar:∀ a∈A,jb5 h A a){a:Addr}{vs:List Value}(ha:a∈A)(e:h.get? a=some { cls:=.type "list",data:=.seq vs.toArray }):(∀ u∈vs,OkU A u)/\az K (jar K h A) a (vs.map toV):=by
 obtain ⟨us,h1,h2,h3⟩:=ar a ha;have hu:us=vs:=by
  rcases h3 with q | q
  ·rw [e] at q;exact (jii q).2.symm
  ·rw [e] at q;exact absurd (Value.type.inj (jii q).1) (by decide)
 subst hu;refine ⟨h2,?_⟩;cases hk:K.lookup a with
 | none=>exact .inl (.inr ⟨_,by rw [jix ha hk e,jov]⟩)
 | some o =>
  have e2:=KX a o hk;rw [e] at e2;obtain rfl:=Option.some.inj e2;exact .inr ⟨_,us.toArray,_,hk,rfl,rfl,rfl,by rw [List.size_toArray];exact h1,by simpa using jcv h2⟩
theorem j44(KX:K.In h)(ar:∀ a∈A,jb5 h A a){a:Addr}{vs:List Value}(ha:a∈A)(e:h.get? a=some { cls:=.type "tuple",data:=.seq vs.toArray }):(∀ u∈vs,OkU A u)/\be K (jar K h A) a (vs.map toV):=by
 obtain ⟨us,h1,h2,h3⟩:=ar a ha;have hu:us=vs:=by
  rcases h3 with q | q
  ·rw [e] at q;exact absurd (Value.type.inj (jii q).1) (by decide)
  ·rw [e] at q;exact (jii q).2.symm
 subst hu;refine ⟨h2,?_⟩;cases hk:K.lookup a with
 | none=>exact .inl (.inr ⟨_,by rw [jix ha hk e,jou]⟩)
 | some o =>
  have e2:=KX a o hk;rw [e] at e2;obtain rfl:=Option.some.inj e2;exact .inr ⟨_,us.toArray,_,hk,rfl,rfl,by rw [List.size_toArray];exact h1,by simpa using jcv h2⟩
mutual
theorem j23{Pm:Params}(KX:K.In h)(ar:∀ a∈A,jb5 h A a):∀ (d:WData) (v:Value),Well Pm h v d->plW d=true->OkU A v->Dw K (jar K h A) (toV v) d
 | .none,_,x,_,_=>by
  cases x;exact .non
 | .bool b,_,x,_,_=>by
  cases x;exact .bl b
 | .int i,_,x,_,_=>by
  cases x;exact .int i
 | .str s,_,x,_,_=>by
  cases x;exact .str s
 | .bytes b,_,x,_,_=>by
  cases x;have z:=Dw.byt (K:=K) (H:=jar K h A) b.toArray
  exact z
 | .list ds,_,x,p,hu=>by
  obtain ⟨a,vs,rfl,ho,hall⟩:=jl2 x;obtain ⟨h2,hs⟩:=j45 KX ar hu ho;exact .lst hs (jk3 KX ar ds _ hall p h2)
 | .tuple ds,_,x,p,hu=>by
  obtain ⟨a,vs,rfl,ho,hall⟩:=jjy x;obtain ⟨h2,hs⟩:=j44 KX ar hu ho;exact .tup hs (jk3 KX ar ds _ hall p h2)
 | .float _,_,_,p,_=>Bool.noConfusion (show false=true from p)
 | .dict _,_,_,p,_=>Bool.noConfusion (show false=true from p)
 | .bytearray _,_,_,p,_=>Bool.noConfusion (show false=true from p)
 | .set _,_,_,p,_=>Bool.noConfusion (show false=true from p)
 | .frozenset _,_,_,p,_=>Bool.noConfusion (show false=true from p)
 | .obj _ _,_,_,p,_=>Bool.noConfusion (show false=true from p)
theorem jk3{Pm:Params}(KX:K.In h)(ar:∀ a∈A,jb5 h A a):∀ (ds:List WData) (vs:List Value),WellAll Pm h vs ds->jdy ds=true->(∀ u∈vs,OkU A u)->jcu K (jar K h A) (vs.map toV) ds
 | [],_,x,_,_=>by
  cases x;exact .nil
 | d::ds,_,x,p,hu=>by
  obtain ⟨v,vs,rfl,x1,x2⟩:=jl3 x;have q:plW d=true/\jdy ds=true:=Bool.and_eq_true_iff.mp p
  exact .cons (j23 KX ar d v x1 q.1 (hu _ (List.mem_cons_self ..))) (jk3 KX ar ds vs x2 q.2 λu m=>hu u (List.mem_cons_of_mem _ m))
end
end
theorem jt1{P:Program}{w:World}{K:W.Frag}{mg mb:Str->Option Value}{CX:CXT}{k:Nat}{fa:Addr}{fd:FuncData}{ps:List Str}{sp:Sp}{s₁:Shared}{vals:List Value}{ds:List WData}{R:PySem.W.WRecords}{cl:Str->Option Addr}{d0:WData}
  (KX:K.In s₁.heap) (hns:s₁.heap.Ns mainGlobals mg) (hb:s₁.heap.Ns builtinsNs mb) (hbb:∀ x:Str,x≠"__name__"->mb x=bootBuiltins x) (hlim:s₁.heap.NoLimit) (hg:s₁.gens = #[])
  (hwl:WellAll w.params s₁.heap vals ds) (hpl:jdy ds=true) (hwt:∀ d∈ds,d.weight<=1048576) (hr:xw k callerA)
  (F:∀ base:Heap,K.In base->base.Ns mainGlobals mg->xb P w K mg base CX k fa fd ps sp) (hbind:∀ (s:Shared) (us:List Value),us.length=ps.length->BindsTo s fd ⟨us,[]⟩ (ps.zip us)) (ak:ds.length=ps.length)
  (hsp:∀ (H:Hp) (xs:List V),jna H->jcu K H xs ds->sp xs H (λv H'=>Dw K H' v d0) λ_ _ _=>False)
  (hCX:∀ H e s',CX [] H s₁ (λ_ _ _=>False) e s'->False) :
  codeAny (model P w) callerA (.call (.ref fa) ⟨vals,[]⟩) (λr s'=>∃ u as,r = .ok (.ret u)/\ReadsW R cl s'.heap u d0 as/\OldK s₁.heap s'.heap/\s'.os=s₁.os/\AllBare s'.gens) s₁:=by
 obtain ⟨A,ho,ar⟩:=jha ds vals hwl hpl hwt;have hO:jna (jar K s₁.heap A):=jv6 ar
 have hok:HOk P w (jar K s₁.heap A) s₁.heap:=j07 ar;have hS:=jk3 KX ar ds vals hwl hpl ho
 have hV:=jcv ho;have hK:∀ b u,jar K s₁.heap A b=some u->K.lookup b=none:=λb u q=>(jiw ar q).1
 have noA:∀ {b:Addr} {o:Obj} {es:Array DictEntry} {ep:Nat},s₁.heap.get? b=some o->o.data = .dict es ep->jar K s₁.heap A b=none:=λ{b o es ep} e d=>by
  cases q:jar K s₁.heap A b with
  | none=>rfl
  | some u =>
   obtain ⟨_,vs,_,_,⟨e2,_⟩ | ⟨e2,_⟩⟩:=jiw ar q
   ·rw [e2] at e;cases e;have d':Data.seq vs.toArray _=Data.dict es ep:=d
    cases d'
   ·rw [e2] at e;cases e;have d':Data.seq vs.toArray _=Data.dict es ep:=d
    cases d'
 generalize jar K s₁.heap A=H at hO hok hS hK noA;have base_of:∀ {b:Addr} {o:Obj},s₁.heap.get? b=some o->H b=none->(jg5 s₁.heap H).get? b=some o:=λe n=>jx6 e n
 have nsK:∀ {b:Addr} {m:Str->Option Value},s₁.heap.Ns b m->(jg5 s₁.heap H).Ns b m:=λ{b m} ⟨o,es,ep,e,d,r⟩=>⟨o,es,ep,base_of e (noA e d),d,r⟩
 have nK:∀ b o,K.lookup b=some o->H b=none:=λb o e=>by
  cases q:H b with
  | none=>rfl
  | some u =>
   rw [hK b u q] at e;cases e
 have hKb:K.In (jg5 s₁.heap H):=λb o e=>base_of (KX b o e) (nK b o e);have hM:Mod K mg (jg5 s₁.heap H):=⟨hKb,nsK hns,⟨mb,nsK hb,hbb⟩,let ⟨mc,h1,h2⟩:=hlim;⟨mc,nsK h1,h2⟩⟩
 have e0:jjx P w K mg (jg5 s₁.heap H) callerA [] s₁ H:=⟨rfl,hM,λb o e=>j0m e,Nat.le_of_eq (jvm _ _),trivial,λb hb=>absurd (show b∈([]:List Addr) from hb) (by simp),hok,.of_eq hg⟩
 have hl:vals.length=ps.length:=by rw [jc6 hwl];exact ak
 refine codeAny_mono ((F _ hKb (nsK hns)).run callerA [] s₁ H ⟨vals,[]⟩ vals (vals.map toV) _ _ hr e0 (hbind s₁ vals hl) hV (hsp H _ hO hS)) λr s' x=>?_;cases r with
 | error e=>exact (hCX H e s' x).elim
 | ok fl =>
  cases fl with
  | next=>exact False.elim x
  | brk=>exact False.elim x
  | cont=>exact False.elim x
  | ret u =>
   obtain ⟨v,H',os,bare,un,hok',r',q⟩:=x;have kept:∀ b o,s₁.heap.get? b=some o->s'.heap.get? b=some o:=λb o e=>by
    cases q2:H b with
    | none=>exact un.keep b o e q2 (by intro z;exact absurd (show b∈([]:List Addr) from z) (by simp)) (by simp)
    | some u2 =>
     rcases hO b with z | ⟨ob,u3,z⟩
     ·rw [q2] at z;cases z
     ·have z2:=un.frzs b ob _ z;obtain ⟨e1,_⟩:=hok b _ z;obtain ⟨e2,_⟩:=hok' b _ z2;rw [e] at e1;cases e1;exact e2
   have KX':K.In s'.heap:=λb o e=>kept b o (KX b o e);obtain ⟨as,hrd⟩:=Dw.reads (R:=R) (cl:=cl) hok' KX' d0 v u q r';exact ⟨u,as,rfl,hrd,OldK.of_keep kept,os,bare⟩
theorem jlq{ds:List WData}(h:WData.layableAll ds=true):∀ d∈ds,d.weight<=1048576:=λd hd =>
 (PySem.W.layableW_iff.mp (List.all_eq_true.mp h d hd)).2.2
theorem jk2:∀ (cs:List Codec) (a:Codec.denoteAll cs),(Codec.encAll cs a).length=cs.length
 | [],_=>rfl
 | c::cs,a=>by
  show (Codec.encAll cs a.2).length + 1=cs.length + 1;rw [jk2 cs a.2]
theorem jtn{r:OpenSpec}{k:Nat}{q:Program}{loose:List Str}{XP:(Str->Option Value)->Heap->Prop}{YP:World->Heap->Prop}{d:DefRec}{K:Params->PySem.W.Frag}{CX:World->CXT}{ps:List Str}{sp:World->Sp}
  (hwell:r.wellSaid=true) (hdf:d.params.defaults=[]) (ak:r.args.length=ps.length) (hr:xw k callerA)
  (hY:∀ (w:World) (h:Heap),YP w h->(K w.params).In h)
  (F:∀ (w:World) (mg:Str->Option Value) (fa:Addr) (h:Heap),YP w h->(K w.params).In h->h.Ns mainGlobals mg->mg d.name=some (.ref fa)->
   ∃ fd:FuncData,(∀ (s:Shared) (us:List Value),us.length=ps.length->BindsTo s fd ⟨us,[]⟩ (ps.zip us))/\
    ∀ base:Heap,(K w.params).In base->base.Ns mainGlobals mg->xb r.prog w (K w.params) mg base (CX w) k fa fd ps (sp w))
  (hsp:∀ (w:World) (H:Hp) (xs:List V) (a:Codec.denoteAll r.args),jna H->Codec.withinAll r.args a=true->Codec.app r.args r.asked a=true->jcu (K w.params) H xs (Codec.encAll r.args a)->
   sp w xs H (λv H'=>Dw (K w.params) H' v (r.ret.enc (Codec.app r.args r.f a))) λ_ _ _=>False)
  (hCX:∀ (w:World) (H:Hp) (s:Shared) (e:Value) (s':Shared),CX w [] H s (λ_ _ _=>False) e s'->False) :
  PySem.W.WalkOS q loose XP YP r d [] (λf vs=>PySem.call f vs):=by
 intro w s_0 s₁ mg mb G Y fa o pm cd doc dV kV ho hd hcd hD hmg hg args vals as hpre hlay hrd hwl hlo;obtain ⟨a,e1,e2⟩:=PySem.W.os_pre_some hpre;obtain ⟨e3,hwi⟩:=Codec.encAll_of_decAll r.args args a e1;subst e3;have KX:=hY w _ Y
 obtain ⟨fd,hb,hF⟩:=F w mg fa _ Y KX G.T.g hmg;refine PySem.W.enter_call (codeAny_mono (jt1 (R:=[]) (cl:=classAt s_0.heap) (d0:=r.ret.enc (Codec.app r.args r.f a)) KX G.T.g G.T.b G.T.builtins G.T.nolimit hg hwl (jmg _ _) (jlq hlay) hr hF hb (by rw [jk2];exact ak)
  (λH xs hO hS=>hsp w H xs a hO hwi e2 hS) λH e s'=>hCX w H s₁ e s') λr' s' hq=>?_)
 obtain ⟨u,as',rfl,h1,h2,h3,h4⟩:=hq;exact ⟨.inl ⟨u,_,as',rfl,λ_=>rfl,h1,(OpenSpec.post_iff hwell hwi _ _).mpr rfl,λz=>Bool.noConfusion (show false=true from z)⟩,h2,h3,h4⟩
end L2
end
section
set_option maxRecDepth 100000
set_option maxHeartbeats 4000000
namespace Prg
open PySem L2
open Vanbka (Bytes)
theorem jze{l:List Int}(h:∀ z∈l,0<=z/\z<=255):vb (VanbkaNeutral.text l)=l.map V.int:=by
 unfold vb VanbkaNeutral.text;rw [List.map_map];refine List.map_congr_left λz hz=>?_;have:=h z hz
 show V.int (((UInt8.ofNat z.toNat).toNat:Nat):Int)=V.int z;have e:(UInt8.ofNat z.toNat).toNat=z.toNat:=by
  rw [UInt8.toNat_ofNat'];exact Nat.mod_eq_of_lt (by omega)
 rw [e]
 congr 1
 omega
theorem jyd{l:List Int}(h:∀ z∈l,0<=z/\z<=255):NeutralIO.bytes l=true:=by
 unfold NeutralIO.bytes;rw [List.all_eq_true];intro z hz;have:=h z hz
 simp only [Bool.and_eq_true,decide_eq_true_eq];omega
theorem yn{P:Program}{w:World}{K:W.Frag}{mg:Str->Option Value}{base:Heap}{k:Nat}{x:Str}{ps:List Str}{st:PySem.Stmt}{sp:Sp}(Kn:jr K mg x ps st)(ok:∀ f fd,Fun K x x st f fd->xb P w K mg base (CXF P w) k f fd ps sp):ax P w K mg base k x ps sp:=by
 obtain ⟨f,fd,F,b,kp,m⟩:=Kn;exact ⟨f,fd,ok f fd F,b,kp,m⟩
section
variable{P:Program}{w:World}{K:W.Frag}{mg:Str->Option Value}{h:Heap}{f:Addr}{od an:Option Addr}{sl:Array (Option Value)}{oc kV dc pm cd ct:Value}
theorem jot{x:Str}{ps:List Str}{st:PySem.Stmt}(X:K.In h)(G:h.Ns mainGlobals mg)
  (hb:∀ (kV doc pm:Value) (an:Option Addr) (ac ct:Value) (us:List Value),us.length=ps.length->bindArgs (PySem.W.fnOf x x (wv st) (z9 st) (jj st) .none kV doc pm an ac ct) ⟨us,[]⟩=pure (ps.zip us))
  (a:PySem.W.nsIn K mainGlobals x=some (some (.ref f))) (l:K.lookup f=some ⟨oc,od,.func (PySem.W.fnOf x x (wv st) (z9 st) (jj st) .none kV dc pm an cd ct),sl⟩) (c:PySem.W.codeIn K cd x=true) (k:PySem.W.keepIn K (.ref f)=true):jr K mg x ps st:=by
 have F:=jf6 (st:=st) l c k;exact ⟨f,_,F,F.binds hb,k,PySem.W.mg_of X G a⟩
theorem j3_{x:Str}{i:Int}{t:PySem.Tok}(X:K.In h)(G:h.Ns mainGlobals mg)(a:PySem.W.nsIn K mainGlobals x=some (some (.int i t))):CI mg x i:=⟨t,PySem.W.mg_of X G a⟩
theorem j39{x z:Str}{t:PySem.Tok}(X:K.In h)(G:h.Ns mainGlobals mg)(a:PySem.W.nsIn K mainGlobals x=some (some (.str z t))):CS mg x z:=⟨t,PySem.W.mg_of X G a⟩
theorem jo6{C:Addr}(pg:PySem.W.plainGet K C Str.empty=true)(hd:PySem.W.hasDictIn K C=true)(po:PySem.W.plainOver K C=true)(sa:PySem.W.findIn K (.ref C) "__setattr__"=some (some (.builtin "object.__setattr__"))):Cls K C:=⟨pg,hd,po,sa⟩
def jn8:V->Value->Bool
 | .int i,.int j _=>i == j
 | .str x,.str y _=>x == y
 | .ref a,.ref b=>a == b
 | _,_=>false
theorem jqr{x:V}{u:Value}(h:jn8 x u=true):xm x u:=by
 cases x <;> cases u <;> simp only [jn8,Bool.false_eq_true,beq_iff_eq] at h
 ·subst h;exact ⟨_,rfl⟩
 ·subst h;exact ⟨_,rfl⟩
 ·subst h;rfl
def jjz:List V->List Value->Bool
 | [],[]=>true
 | x::xs,u::us=>jn8 x u && jjz xs us
 | _,_=>false
theorem ji7:∀ {xs:List V} {us:List Value},jjz xs us=true->qw xs us
 | [],[],_=>.nil
 | x::xs,u::us,h=>by
  have h:(jn8 x u && jjz xs us)=true:=h;rw [Bool.and_eq_true] at h;exact .cons (jqr h.1) (ji7 h.2)
theorem j0r{x:Str}{a:Addr}{ad:Array Value}{n:Nat}{vs:List V}(X:K.In h)(G:h.Ns mainGlobals mg)(e:PySem.W.nsIn K mainGlobals x=some (some (.ref a)))(l:K.lookup a=some ⟨.type "tuple",od,.seq ad n,sl⟩)(hv:jjz vs ad.toList=true)(hs:ad.size<=1000):je3 K mg x vs :=
 ⟨a,PySem.W.mg_of X G e,λH=>.inr ⟨_,ad,n,l,rfl,rfl,Nat.le_trans hs (by decide),ji7 hv⟩⟩
theorem vh{a:Addr}{ad:Array Value}{n:Nat}{vs:List V}(l:K.lookup a=some ⟨.type "tuple",od,.seq ad n,sl⟩)(hv:jjz vs ad.toList=true)(hs:ad.size<=1000):∀ H,be K H a vs :=
 λH=>.inr ⟨_,ad,n,l,rfl,rfl,Nat.le_trans hs (by decide),ji7 hv⟩
def jh6(w:World):List DictEntry->List (Key×V)->Prop
 | [],[]=>True
 | e::es,kv::ae=>(jag kv.1 e.key=true/\e.hash=jjq w kv.1/\jn8 kv.2 e.val=true)/\jh6 w es ae
 | _,_=>False
theorem jq5{w:World}:∀ {es:List DictEntry} {ae:List (Key×V)},jh6 w es ae->Paired (λ(e:DictEntry) (kv:Key×V)=>jag kv.1 e.key=true/\e.hash=jjq w kv.1/\xm kv.2 e.val) es ae
 | [],[],_=>.nil
 | e::es,kv::ae,h=>.cons ⟨h.1.1,h.1.2.1,jqr h.1.2.2⟩ (jq5 h.2)
theorem jeo{a:Addr}{es:Array DictEntry}{ep:Nat}{ae:List (Key×V)}(l:K.lookup a=some ⟨.type "dict",none,.dict es ep,#[]⟩)(ha:(a == sysModules)=false)(hv:jh6 w es.toList ae):jct w K a ae :=
 ⟨ha,_,es,ep,l,⟨rfl,rfl,rfl⟩,rfl,jq5 hv⟩
theorem two_mk{a a1 a2 a3 a4 a5:Addr}{ep:Nat}{n1 n2 n3 n4 n5:Nat}{o1 o2 o3 o4 o5:Option Addr}{s1 s2 s3 s4 s5:Array (Option Value)}{u1 u2 u3 u4 u5 x1 x2 x3 x4 x5 y1 y2 y3 y4 y5:PySem.Tok}(X:K.In h)(G:h.Ns mainGlobals mg)(e:PySem.W.nsIn K mainGlobals "TWO_BYTE_SIGNS"=some (some (.ref a)))(ha:(a == sysModules)=false)
  (l:K.lookup a=some ⟨.type "dict",none,.dict #[⟨-3471720369269462519,.ref a1,.str "==" u1⟩,⟨1934246103329546215,.ref a2,.str "!=" u2⟩,⟨5124875052475701045,.ref a3,.str "<=" u3⟩,⟨-5908778216009708212,.ref a4,.str ">=" u4⟩,⟨3070702662433416457,.ref a5,.str "++" u5⟩] ep,#[]⟩)
  (l1:K.lookup a1=some ⟨.type "tuple",o1,.seq #[.int 61 x1,.int 61 y1] n1,s1⟩) (l2:K.lookup a2=some ⟨.type "tuple",o2,.seq #[.int 33 x2,.int 61 y2] n2,s2⟩) (l3:K.lookup a3=some ⟨.type "tuple",o3,.seq #[.int 60 x3,.int 61 y3] n3,s3⟩) (l4:K.lookup a4=some ⟨.type "tuple",o4,.seq #[.int 62 x4,.int 61 y4] n4,s4⟩) (l5:K.lookup a5=some ⟨.type "tuple",o5,.seq #[.int 43 x5,.int 43 y5] n5,s5⟩):KDT P w K mg "TWO_BYTE_SIGNS" twoV:=by
 refine ⟨a,PySem.W.mg_of X G e,ha,_,_,ep,[([.inl 61,.inl 61],a1,.str "==" u1),([.inl 33,.inl 61],a2,.str "!=" u2),([.inl 60,.inl 61],a3,.str "<=" u3),([.inl 62,.inl 61],a4,.str ">=" u4),([.inl 43,.inl 43],a5,.str "++" u5)],l,⟨rfl,rfl,rfl⟩,rfl,?_,(by show ([[.inl 61,.inl 61],[.inl 33,.inl 61],[.inl 60,.inl 61],[.inl 62,.inl 61],[.inl 43,.inl 43]]:List (List Key)).Nodup;decide),?_⟩
 ·have hh:∀ i j:Int,tupleKeyHash (yq P w) [Sum.inl i,Sum.inl j]=reduceHash (Builtin.Tuple.tupleHashOf [hashInt i,hashInt j]):=λ_ _=>rfl;have e1:reduceHash (Builtin.Tuple.tupleHashOf [hashInt 61,hashInt 61]) = -3471720369269462519:=by decide +kernel
  have e2:reduceHash (Builtin.Tuple.tupleHashOf [hashInt 33,hashInt 61])=1934246103329546215:=by decide +kernel
  have e3:reduceHash (Builtin.Tuple.tupleHashOf [hashInt 60,hashInt 61])=5124875052475701045:=by decide +kernel
  have e4:reduceHash (Builtin.Tuple.tupleHashOf [hashInt 62,hashInt 61]) = -5908778216009708212:=by decide +kernel
  have e5:reduceHash (Builtin.Tuple.tupleHashOf [hashInt 43,hashInt 43])=3070702662433416457:=by decide +kernel
  show _=[⟨tupleKeyHash (yq P w) [Sum.inl 61,Sum.inl 61],.ref a1,.str "==" u1⟩,⟨tupleKeyHash (yq P w) [Sum.inl 33,Sum.inl 61],.ref a2,.str "!=" u2⟩,⟨tupleKeyHash (yq P w) [Sum.inl 60,Sum.inl 61],.ref a3,.str "<=" u3⟩,⟨tupleKeyHash (yq P w) [Sum.inl 62,Sum.inl 61],.ref a4,.str ">=" u4⟩,(⟨tupleKeyHash (yq P w) [Sum.inl 43,Sum.inl 43],.ref a5,.str "++" u5⟩:DictEntry)]
  rw [hh,hh,hh,hh,hh,e1,e2,e3,e4,e5]
 ·have it:∀ {i j:Int} {x y:PySem.Tok},ItemsAre (yq P w) [Sum.inl i,Sum.inl j] [.int i x,.int j y]:=λ{i j x y}=>.cons (jh3 i x) (.cons (jh3 j y) .nil);exact .cons ⟨rfl,⟨_,rfl⟩,_,_,_,l1,rfl,rfl,it⟩ (.cons ⟨rfl,⟨_,rfl⟩,_,_,_,l2,rfl,rfl,it⟩ (.cons ⟨rfl,⟨_,rfl⟩,_,_,_,l3,rfl,rfl,it⟩ (.cons ⟨rfl,⟨_,rfl⟩,_,_,_,l4,rfl,rfl,it⟩ (.cons ⟨rfl,⟨_,rfl⟩,_,_,_,l5,rfl,rfl,it⟩ .nil))))
theorem jy6{x:Str}{a:Addr}{es:Array DictEntry}{ep:Nat}{ae:List (Key×V)}(X:K.In h)(G:h.Ns mainGlobals mg)(e:PySem.W.nsIn K mainGlobals x=some (some (.ref a)))(l:K.lookup a=some ⟨.type "dict",none,.dict es ep,#[]⟩)(ha:(a == sysModules)=false)(hv:jh6 w es.toList ae):KD w K mg x ae:=⟨a,PySem.W.mg_of X G e,jeo l ha hv⟩
theorem jzd{C fI:Addr}{dd od2:Option Addr}{cdt:ClassData}{sl sl2:Array (Option Value)}{oc2:Value}{es:Array DictEntry}{ep:Nat}{fs:List Str}(l:K.lookup C=some ⟨.type "type",dd,.cls cdt,sl⟩)(l2:K.lookup cdt.ns=some ⟨oc2,od2,.dict es ep,sl2⟩)
  (q:(match sl.toList with
   | [_,_,_,_,some (.builtin nw),_]=>cdt.mro == .ref C::jk0 && cdt.hasDict && !cdt.hasDel && nw == "Exception.__new__" && (es.toList.all jkr && nsFind es "__init__" == some (.ref fI) && (nsFind es "__setattr__" == none && (nsFind es "__getattribute__" == none && (nsFind es "__getattr__" == none && fs.all λf=>nsFind es f == none))))
   | _=>false)=true) (ty:PySem.W.typeIn K (.ref fI)=some (.type "function")):jch K C fI fs=true:=by
 unfold jch;rw [l];show (match sl.toList with
  | [_,_,_,_,some (.builtin nw),_]=>cdt.mro == .ref C::jk0 && cdt.hasDict && !cdt.hasDel && nw == "Exception.__new__" && (match K.lookup cdt.ns with
   | some ⟨_,_,.dict es _,_⟩=>es.toList.all jkr && nsFind es "__init__" == some (.ref fI) && (nsFind es "__setattr__" == none && (nsFind es "__getattribute__" == none && (nsFind es "__getattr__" == none && fs.all λf=>nsFind es f == none)))
   | _=>false) && PySem.W.typeIn K (.ref fI) == some (.type "function")
  | _=>false)=true
 rw [l2,ty];split at q
 ·rename_i c0 c1 c2 c3 nw c5 hs;show (_ && (some (Value.type "function") == some (Value.type "function")))=true
  have:(some (Value.type "function") == some (Value.type "function"))=true:=by decide
  rw [this,Bool.and_true];exact q
 ·cases q
end
section
variable{P:Program}{w:World}{K:W.Frag}{mg:Str->Option Value}{h:Heap}{C f:Addr}{od an:Option Addr}{sl:Array (Option Value)}{oc kV dc pm cd ct:Value}
theorem jwk(X:K.In h)(G:h.Ns mainGlobals mg)(a:PySem.W.nsIn K mainGlobals "Token"=some (some (.ref C)))(cl:Cls K C)(n1:PySem.W.findIn K (.ref C) "kind"=some none)(n2:PySem.W.findIn K (.ref C) "place"=some none)(n3:PySem.W.findIn K (.ref C) "end"=some none)(n4:PySem.W.findIn K (.ref C) "value"=some none)
  (mk:PySem.W.makesIn K C=true) (i:PySem.W.findIn K (.ref C) "__init__"=some (some (.ref f))) (fn:PySem.W.isFn K (.ref f)=true) (kc:PySem.W.keepIn K (.ref C)=true)
  (l:K.lookup f=some ⟨oc,od,.func (PySem.W.fnOf "__init__" "Token.__init__" (wv jbl) (z9 jbl) (jj jbl) .none kV dc pm an cd ct),sl⟩) (c:PySem.W.codeIn K cd "Token.__init__"=true) (k:PySem.W.keepIn K (.ref f)=true):∃ tI aw,zz K mg C tI aw:=by
 have F:=jf6 (st:=jbl) l c k;refine ⟨f,_,⟨cl,λx hx=>?_,PySem.W.mg_of X G a⟩,⟨mk,i,fn,kc⟩,F,F.binds (ps:=["self", "kind", "place", "end", "value"]) λ_ _ _ _ _ _ us hl=>match us,hl with | [_,_,_,_,_],_=>rfl⟩;simp only [List.mem_cons,List.not_mem_nil,or_false] at hx;rcases hx with rfl | rfl | rfl | rfl
 ·exact n1
 ·exact n2
 ·exact n3
 ·exact n4
theorem jx9(X:K.In h)(G:h.Ns mainGlobals mg)(a:PySem.W.nsIn K mainGlobals "Fault"=some (some (.ref C)))(kc:PySem.W.keepIn K (.ref C)=true)(x:jch K C f ["number", "told"]=true)
  (l:K.lookup f=some ⟨oc,od,.func (PySem.W.fnOf "__init__" "Fault.__init__" (wv jam) (z9 jam) (jj jam) .none kV dc pm an cd ct),sl⟩) (c:PySem.W.codeIn K cd "Fault.__init__"=true) (k:PySem.W.keepIn K (.ref f)=true):∃ fI au,v8 K mg C fI au:=by
 have F:=jf6 (st:=jam) l c k;exact ⟨f,_,x,F,F.binds (ps:=["self", "number", "told"]) λ_ _ _ _ _ _ us hl=>match us,hl with | [_,_,_],_=>rfl,PySem.W.mg_of X G a,kc⟩
end
section
variable{P:Program}{w:World}{K:W.Frag}{mg:Str->Option Value}{h:Heap}{f:Addr}{od an:Option Addr}{sl:Array (Option Value)}{oc kV dc pm cd ct:Value}
def jdv(K:W.Frag)(C:Addr)(m qual:Str)(ps:List Str)(st:PySem.Stmt):Prop:=∃ f fd,Fun K m qual st f fd/\zl K fd ps []/\jlz K C m f
theorem jmq{C:Addr}{m qual:Str}{ps:List Str}{st:PySem.Stmt}
  (hb:∀ (kV doc pm:Value) (an:Option Addr) (ac ct:Value) (us:List Value),us.length=ps.length->bindArgs (PySem.W.fnOf m qual (wv st) (z9 st) (jj st) .none kV doc pm an ac ct) ⟨us,[]⟩=pure (ps.zip us))
  (a:PySem.W.findIn K (.ref C) m=some (some (.ref f))) (i:PySem.W.isFn K (.ref f)=true) (l:K.lookup f=some ⟨oc,od,.func (PySem.W.fnOf m qual (wv st) (z9 st) (jj st) .none kV dc pm an cd ct),sl⟩) (c:PySem.W.codeIn K cd qual=true) (k:PySem.W.keepIn K (.ref f)=true):jdv K C m qual ps st:=by
 have F:=jf6 (st:=st) l c k;exact ⟨f,_,F,F.binds hb,a,i,k⟩
theorem jit{P:Program}{w:World}{K:W.Frag}{mg:Str->Option Value}{base:Heap}{C:Addr}{k:Nat}{m qual:Str}{ps:List Str}{st:PySem.Stmt}{sp:Sp}(Kn:jdv K C m qual ps st)(ok:∀ f fd,Fun K m qual st f fd->xb P w K mg base (CXF P w) k f fd ps sp):ja5 P w K mg base C k m ps sp:=by
 obtain ⟨f,fd,F,b,M⟩:=Kn;exact ⟨f,fd,ok f fd F,b,M⟩
theorem jmt(rows:List (Str×Nat))(z:Str):zf (rows.map λp=>((Sum.inr p.1:Key),V.int (p.2:Int))) (.inr z)=(rows.lookup z).map λ(m:Nat)=>V.int (m:Int):=by
 induction rows with
 | nil=>rfl
 | cons r rows ih =>
  rw [List.map_cons,List.lookup_cons];by_cases e:z=r.1
  ·subst e;rw [beq_self_eq_true,ja9 rfl];rfl
  ·have n:¬ (Sum.inr r.1:Key)=Sum.inr z:=λy=>by injection y with y;exact e y.symm
   rw [beq_eq_false_iff_ne.mpr e,zx n,ih]
theorem jye{a:Addr}{es:Array DictEntry}{ep:Nat}(X:K.In h)(G:h.Ns mainGlobals mg)(e:PySem.W.nsIn K mainGlobals "BUILT_IN"=some (some (.ref a)))(l:K.lookup a=some ⟨.type "dict",none,.dict es ep,#[]⟩)(ha:(a == sysModules)=false)
  (hv:jh6 w es.toList (vq.map λp=>((Sum.inr p.1:Key),V.int (p.2:Int)))):jf_ w K mg:=⟨a,_,PySem.W.mg_of X G e,jeo l ha hv,λz=>jmt vq z⟩
end
section
variable{P:Program}{w:World}{K:W.Frag}{mg:Str->Option Value}{h:Heap}{C f:Addr}{od an:Option Addr}{sl:Array (Option Value)}{oc kV dc pm cd ct:Value}
theorem jzf(X:K.In h)(G:h.Ns mainGlobals mg)(a:PySem.W.nsIn K mainGlobals "Tree"=some (some (.ref C)))(cl:Cls K C)(n1:PySem.W.findIn K (.ref C) "kind"=some none)(n2:PySem.W.findIn K (.ref C) "leaves"=some none)(n3:PySem.W.findIn K (.ref C) "parts"=some none)(n4:PySem.W.findIn K (.ref C) "blocks"=some none)(n5:PySem.W.findIn K (.ref C) "depth"=some none)(n6:PySem.W.findIn K (.ref C) "place"=some none)(n7:PySem.W.findIn K (.ref C) "end"=some none)
  (mk:PySem.W.makesIn K C=true) (i:PySem.W.findIn K (.ref C) "__init__"=some (some (.ref f))) (fn:PySem.W.isFn K (.ref f)=true) (kc:PySem.W.keepIn K (.ref C)=true)
  (l:K.lookup f=some ⟨oc,od,.func (PySem.W.fnOf "__init__" "Tree.__init__" (wv jbd) (z9 jbd) (jj jbd) .none kV dc pm an cd ct),sl⟩) (c:PySem.W.codeIn K cd "Tree.__init__"=true) (k:PySem.W.keepIn K (.ref f)=true):∃ tI aw,jk7 K mg C tI aw:=by
 have F:=jf6 (st:=jbd) l c k;refine ⟨f,_,⟨cl,λx hx=>?_,PySem.W.mg_of X G a⟩,⟨mk,i,fn,kc⟩,F,F.binds (ps:=["self", "kind", "leaves", "parts", "blocks"]) λ_ _ _ _ _ _ us hl=>match us,hl with | [_,_,_,_,_],_=>rfl⟩;simp only [List.mem_cons,List.not_mem_nil,or_false] at hx;rcases hx with rfl | rfl | rfl | rfl | rfl | rfl | rfl
 ·exact n1
 ·exact n2
 ·exact n3
 ·exact n4
 ·exact n5
 ·exact n6
 ·exact n7
theorem jul(X:K.In h)(G:h.Ns mainGlobals mg)(a:PySem.W.nsIn K mainGlobals "Reader"=some (some (.ref C)))(cl:Cls K C)(n1:PySem.W.findIn K (.ref C) "tokens"=some none)(n2:PySem.W.findIn K (.ref C) "at"=some none)
  (mk:PySem.W.makesIn K C=true) (i:PySem.W.findIn K (.ref C) "__init__"=some (some (.ref f))) (fn:PySem.W.isFn K (.ref f)=true) (kc:PySem.W.keepIn K (.ref C)=true)
  (l:K.lookup f=some ⟨oc,od,.func (PySem.W.fnOf "__init__" "Reader.__init__" (wv vy) (z9 vy) (jj vy) .none kV dc pm an cd ct),sl⟩) (c:PySem.W.codeIn K cd "Reader.__init__"=true) (k:PySem.W.keepIn K (.ref f)=true) :
  zu K mg "Reader" C ["tokens", "at"]/\∃ rI rdI,Mk K C rI/\Fun K "__init__" "Reader.__init__" vy rI rdI/\zl K rdI ["self", "tokens"] []:=by
 have F:=jf6 (st:=vy) l c k;refine ⟨⟨cl,λx hx=>?_,PySem.W.mg_of X G a⟩,f,_,⟨mk,i,fn,kc⟩,F,F.binds (ps:=["self", "tokens"]) λ_ _ _ _ _ _ us hl=>match us,hl with | [_,_],_=>rfl⟩;simp only [List.mem_cons,List.not_mem_nil,or_false] at hx;rcases hx with rfl | rfl
 ·exact n1
 ·exact n2
end
def jhm:List (Str×Int×Int×Int):=[("or",1,1,2),("and",2,2,3),("==",4,5,5),("!=",4,5,5),("<",4,5,5),("<=",4,5,5),(">",4,5,5),(">=",4,5,5),("++",5,5,6),("+",6,6,7),("-",6,6,7),("*",7,7,8),("/",7,7,8),("percent",7,7,8)]
theorem jt4(o:Vanbka.Op):jhm.lookup (opK o)=some ((o.strength:Int),(o.left:Int),(o.right:Int)):=by cases o <;> decide
theorem jwr(z:Str):vi.lookup z=(jhm.lookup z).map (·.1):=by
 have gen:∀ l:List (Str×Int×Int×Int),(l.map λr=>(r.1,r.2.1)).lookup z=(l.lookup z).map (·.1):=by
  intro l;induction l with
  | nil=>rfl
  | cons r l ih =>
   rw [List.map_cons,List.lookup_cons,List.lookup_cons];cases z == r.1 with
   | true=>rfl
   | false=>exact ih
 exact gen jhm
section
variable{P:Program}{w:World}{K:W.Frag}{mg:Str->Option Value}{h:Heap}
theorem joy(rows:List (Str×(Int×Int×Int)×Addr))(hr:∀ r∈rows,∀ H,be K H r.2.2 [.int r.2.1.1,.int r.2.1.2.1,.int r.2.1.2.2])(z:Str):match (rows.map λr=>(r.1,r.2.1)).lookup z with
  | none=>zf (rows.map λr=>((Sum.inr r.1:Key),V.ref r.2.2)) (.inr z)=none
  | some i=>∃ t,zf (rows.map λr=>((Sum.inr r.1:Key),V.ref r.2.2)) (.inr z)=some (.ref t)/\∀ H,be K H t [.int i.1,.int i.2.1,.int i.2.2]:=by
 induction rows with
 | nil=>exact rfl
 | cons r rows ih =>
  rw [List.map_cons,List.map_cons,List.lookup_cons];by_cases e:z=r.1
  ·subst e;rw [beq_self_eq_true];exact ⟨r.2.2,ja9 rfl,hr r (.head _)⟩
  ·rw [beq_eq_false_iff_ne.mpr e];have n:¬ (Sum.inr r.1:Key)=Sum.inr z:=λy=>by injection y with y;exact e y.symm
   have:=ih λr' h'=>hr r' (List.mem_cons_of_mem _ h');dsimp only;rw [zx n];exact this
abbrev jrc(w:World)(K:W.Frag)(mg:Str->Option Value):Prop:=∃ a ae,mg "SIDES"=some (.ref a)/\jct w K a ae/\∀ o:Vanbka.Op,∃ t,zf ae (.inr (opK o))=some (.ref t)/\∀ H,be K H t [.int (o.strength:Nat),.int (o.left:Nat),.int (o.right:Nat)]
theorem j0w{a:Addr}{es:Array DictEntry}{ep:Nat}(X:K.In h)(G:h.Ns mainGlobals mg)(rows:List (Str×(Int×Int×Int)×Addr))(hx:(rows.map λr=>(r.1,r.2.1))=jhm)(e:PySem.W.nsIn K mainGlobals "SIDES"=some (some (.ref a)))(l:K.lookup a=some ⟨.type "dict",none,.dict es ep,#[]⟩)(ha:(a == sysModules)=false)
  (hv:jh6 w es.toList (rows.map λr=>((Sum.inr r.1:Key),V.ref r.2.2))) (hr:∀ r∈rows,∀ H,be K H r.2.2 [.int r.2.1.1,.int r.2.1.2.1,.int r.2.1.2.2]):jf9 w K mg/\jrc w K mg:=by
 refine ⟨⟨a,_,PySem.W.mg_of X G e,jeo l ha hv,λz=>?_⟩,⟨a,_,PySem.W.mg_of X G e,jeo l ha hv,λo=>?_⟩⟩
 ·have:=joy rows hr z;rw [hx] at this;rw [jwr];cases e:jhm.lookup z with
  | none=>rw [e] at this;exact this
  | some i =>
   rw [e] at this;obtain ⟨t,h1,h2⟩:=this;exact ⟨t,_,_,h1,h2⟩
 ·have:=joy rows hr (opK o);rw [hx,jt4] at this;exact this
def jyy(K:W.Frag):List (Str×(Int×Int×Int)×Addr)->Prop
 | []=>True
 | r::l=>(∀ H,be K H r.2.2 [.int r.2.1.1,.int r.2.1.2.1,.int r.2.1.2.2])/\jyy K l
theorem jmd:∀ {rows:List (Str×(Int×Int×Int)×Addr)},jyy K rows->∀ r∈rows,∀ H,be K H r.2.2 [.int r.2.1.1,.int r.2.1.2.1,.int r.2.1.2.2]
 | [],_,r,hr=>by cases hr
 | q::l,h,r,hr=>by
  rcases List.mem_cons.mp hr with z | z
  ·subst z;exact h.1
  ·exact jmd h.2 r z
theorem j2f{a:Addr}{es:Array DictEntry}{ep:Nat}(X:K.In h)(G:h.Ns mainGlobals mg)(e:PySem.W.nsIn K mainGlobals "OTHER_STRENGTHS"=some (some (.ref a)))(l:K.lookup a=some ⟨.type "dict",none,.dict es ep,#[]⟩)(ha:(a == sysModules)=false)
  (hv:jh6 w es.toList (joi.map λp=>((Sum.inr p.1:Key),V.int (p.2:Int)))):jth w K mg:=⟨a,_,PySem.W.mg_of X G e,jeo l ha hv,λz=>jmt joi z⟩
theorem j21{a t1 t2 t3:Addr}{es:Array DictEntry}{ep:Nat}(X:K.In h)(G:h.Ns mainGlobals mg)(e:PySem.W.nsIn K mainGlobals "ESCAPES"=some (some (.ref a)))(l:K.lookup a=some ⟨.type "dict",none,.dict es ep,#[]⟩)(ha:(a == sysModules)=false)
  (hv:jh6 w es.toList [(.inl 92,.ref t1),(.inl 34,.ref t2),(.inl 10,.ref t3)]) (h1:∀ H,be K H t1 [.int 92,.int 92]) (h2:∀ H,be K H t2 [.int 92,.int 34]) (h3:∀ H,be K H t3 [.int 92,.int 110]):jtj w K mg:=by
 refine ⟨a,_,PySem.W.mg_of X G e,jeo l ha hv,λc=>?_⟩;have key:∀ n:Nat,¬ c.toNat=n->¬ (Sum.inl (n:Int):Key)=Sum.inl (c.toNat:Int):=λn hn y=>by injection y with y;exact hn (by omega)
 have cn:∀ (d:UInt8),¬ c=d->¬ c.toNat=d.toNat:=λd hn y=>hn (UInt8.toNat_inj.mp y);unfold joz;by_cases e1:c=92
 ·subst e1;exact ⟨t1,ja9 rfl,h1⟩
 rw [if_neg (by simpa using e1)];by_cases e2:c=34
 ·subst e2;exact ⟨t2,(zx (key 92 (cn 92 e1))).trans (ja9 rfl),h2⟩
 rw [if_neg (by simpa using e2)];by_cases e3:c=10
 ·subst e3;exact ⟨t3,(zx (key 92 (cn 92 e1))).trans ((zx (key 34 (cn 34 e2))).trans (ja9 rfl)),h3⟩
 rw [if_neg (by simpa using e3)];exact (zx (key 92 (cn 92 e1))).trans ((zx (key 34 (cn 34 e2))).trans ((zx (key 10 (cn 10 e3))).trans rfl))
end
structure jzb(P:Program)(w:World)(K:W.Frag)(mg:Str->Option Value)(D:Ad):Prop where
 kDigit:jr K mg "is_digit" ["byte"] jjf
 kWordB:jr K mg "is_word_byte" ["byte"] jfi
 kPass:jr K mg "pass_over" ["text", "place"] jhq
 kBytes:jr K mg "check_bytes" ["text"] jfl
 kNum:jr K mg "cut_number" ["text", "place"] jgq
 kWord:jr K mg "cut_word" ["text", "place"] jjg
 kSpell:jr K mg "spell_lower" ["word"] jfe
 kQuoted:jr K mg "cut_quoted" ["text", "place"] jgp
 kSign:jr K mg "cut_sign" ["text", "place"] jjh
 kTok:jr K mg "cut_token" ["text", "place"] jhs
 kToks:jr K mg "cut_tokens" ["text"] jgo
 kRToks:jr K mg "read_tokens" ["text"] jff
 kLong:jr K mg "is_too_long" ["text"] jjd
 c_LINE_FEED:CI mg "LINE_FEED" 10
 c_BLANK:CI mg "BLANK" 32
 c_LAST_ALLOWED:CI mg "LAST_ALLOWED" 126
 c_QUOTE:CI mg "QUOTE" 34
 c_HASH:CI mg "HASH" 35
 c_ZERO:CI mg "ZERO" 48
 c_NINE:CI mg "NINE" 57
 c_UNDERSCORE:CI mg "UNDERSCORE" 95
 c_BACKSLASH:CI mg "BACKSLASH" 92
 c_LONGEST_WORD:CI mg "LONGEST_WORD" 16
 c_LONGEST_NUMBER:CI mg "LONGEST_NUMBER" 30
 c_LOWER_A:CI mg "LOWER_A" 97
 c_FORBIDDEN_BYTE:CI mg "FORBIDDEN_BYTE" 1
 c_WRONG_TOKEN:CI mg "WRONG_TOKEN" 2
 c_LONGEST_TEXT:CI mg "LONGEST_TEXT" 600
 c_TOO_LONG:CI mg "TOO_LONG" (-1)
 c_LL:CS mg "LOWER_LETTERS" jen
 n_len:mg "len"=none
 n_tuple:mg "tuple"=none
 n_enumerate:mg "enumerate"=none
 tRes:je3 K mg "RESERVED" jrx
 dEsc:KD w K mg "ESCAPED" jlu
 dOne:KD w K mg "ONE_BYTE_SIGNS" jlm
 dTwo:KDT P w K mg "TWO_BYTE_SIGNS" twoV
 oFault:∃ fI au,v8 K mg D.CF fI au
 oToken:∃ tI aw,zz K mg D.CT tI aw
 kExpr:jr K mg "read_expression" ["reader"] je7
 kJoined:jr K mg "read_joined" ["reader", "strength"] jdf
 kSigned:jr K mg "read_signed" ["reader"] jdc
 kReached:jr K mg "read_reached" ["reader"] jck
 kReach:jr K mg "read_reach" ["reader", "left"] jd8
 kListed:jr K mg "read_listed" ["reader", "closing"] jde
 kSimple:jr K mg "read_simple" ["reader"] jdb
 kBrack:jr K mg "read_bracketed" ["reader"] jbn
 kRecord:jr K mg "read_record" ["reader"] jdd
 kFn:jr K mg "read_function" ["reader"] jb2
 kBuilt:jr K mg "read_built_in" ["reader"] jcl
 kBlock:jr K mg "read_block" ["reader"] jd9
 kStmts:jr K mg "read_statements" ["reader", "closing"] ja6
 kStmt:jr K mg "read_statement" ["reader"] jbm
 kBind:jr K mg "read_binding" ["reader"] jcm
 kShow:jr K mg "read_showing" ["reader"] jcj
 kIf:jr K mg "read_if" ["reader"] jik
 kWhile:jr K mg "read_while" ["reader"] jd7
 kFor:jr K mg "read_for" ["reader"] jgn
 kSlider:jr K mg "read_slider" ["reader"] jda
 kChoice:jr K mg "read_choice" ["reader"] jdg
 kGreat:jr K mg "greatest_depth" ["trees"] je8
 kJoins:jr K mg "joins_at" ["kind", "strength"] jje
 kWhole:jr K mg "read_whole" ["reader"] jgm
 kLeaves:jr K mg "read_leaves" ["reader", "kind"] jfg
 kProg:jr K mg "read_program" ["tokens"] jex
 kGood:jr K mg "read_good" ["text"] jhp
 kBr:jr K mg "check_brackets" ["tokens"] jcy
 kDepth:jr K mg "check_depth" ["program"] jfk
 kEnd:jr K mg "end_token" ["text"] jhr
 mLook:jdv K D.CR "look" "Reader.look" ["self"] jru
 mBehind:jdv K D.CR "look_behind" "Reader.look_behind" ["self"] jfh
 mHere:jdv K D.CR "here" "Reader.here" ["self"] jrw
 mMove:jdv K D.CR "move_on" "Reader.move_on" ["self"] jlh
 mTake:jdv K D.CR "take" "Reader.take" ["self", "kind"] jrt
 mLast:jdv K D.CR "behind_last" "Reader.behind_last" ["self"] jfm
 c_DEEP_BRACKET:CI mg "DEEP_BRACKET" 3
 c_NO_PROGRAM:CI mg "NO_PROGRAM" 4
 c_DEEP_PROGRAM:CI mg "DEEP_PROGRAM" 5
 c_DEEPEST_BRACKET:CI mg "DEEPEST_BRACKET" 24
 c_DEEPEST_PROGRAM:CI mg "DEEPEST_PROGRAM" 40
 c_OR_LINE:CI mg "OR_LINE" 1
 c_NOT_LINE:CI mg "NOT_LINE" 3
 c_COMPARED_LINE:CI mg "COMPARED_LINE" 4
 c_SIGNED_LINE:CI mg "SIGNED_LINE" 8
 n_max:mg "max"=none
 tShow:je3 K mg "SHOWING" (jd5.map V.str)
 tOpen:je3 K mg "OPENING" (jin.map V.str)
 tClose:je3 K mg "CLOSING" (jh8.map V.str)
 dBuilt:jf_ w K mg
 oTree:∃ nI ndI,jk7 K mg D.CN nI ndI
 oReader:zu K mg "Reader" D.CR ["tokens", "at"]/\∃ rI rdI,Mk K D.CR rI/\Fun K "__init__" "Reader.__init__" vy rI rdI/\zl K rdI ["self", "tokens"] []
 kSpellS:jr K mg "spell" ["signs"] jkc
 kJoin:jr K mg "join_pieces" ["pieces", "gap"] jrv
 kWNumber:jr K mg "write_number" ["number"] jjc
 kWQuoted:jr K mg "write_quoted" ["said"] jjb
 kStrength:jr K mg "strength_of" ["kind"] jho
 kWSign:jr K mg "write_sign" ["kind"] jn6
 kWProgram:jr K mg "write_program" ["statements"] je5
 kWListed:jr K mg "write_listed" ["parts"] jeu
 kWBlock:jr K mg "write_block" ["statements"] jf0
 kWRecord:jr K mg "write_record" ["tree"] jgk
 kWFunction:jr K mg "write_function" ["tree"] jd6
 kWReach:jr K mg "write_reach" ["tree"] jij
 kWChosen:jr K mg "write_chosen" ["tree"] jgl
 kWBetween:jr K mg "write_between" ["tree"] je6
 kWSimple:jr K mg "write_simple" ["tree"] jgj
 kWBare:jr K mg "write_bare" ["tree"] jkb
 kWExpr:jr K mg "write_expression" ["tree", "wanted"] jka
 kWBlocks:jr K mg "write_blocks" ["tree"] jew
 kWSlider:jr K mg "write_slider" ["tree"] jet
 kWChoice:jr K mg "write_choice" ["tree"] jev
 kWStatement:jr K mg "write_statement" ["tree"] jc_
 c_ANY:CI mg "ANY" 0
 c_CHOSEN:CI mg "CHOSEN" 1
 c_DENIED:CI mg "DENIED" 4
 c_REACHED:CI mg "REACHED" 9
 c_PERCENT:CI mg "PERCENT" 37
 c_GREATEST_STRENGTH:CI mg "GREATEST_STRENGTH" 10
 n_list:mg "list"=none
 n_zip:mg "zip"=none
 n_ord:mg "ord"=none
 n_str:mg "str"=none
 dSides2:jf9 w K mg/\jrc w K mg
 dOth:jth w K mg
 dEscs:jtj w K mg
 kCO:jr K mg "count_opening" ["tokens"] jb3
 kCT:jr K mg "count_trees" ["program"] jfj
 kCall:jr K mg "weigh" ["text"] jj_
 c_NOT_GOOD:CI mg "NOT_GOOD" (-2)
section
variable{P:Program}{w:World}{K:W.Frag}{mg:Str->Option Value}{h:Heap}{D:Ad}{base:Heap}
theorem j20(A:jzb P w K mg D){f:Addr}{fd:FuncData}(Fa:Fun K "weigh" "weigh" jj_ f fd):xb P w K mg base (CXF P w) 507 f fd ["text"] (spT K Vanbka.weighTold):=by
 obtain ⟨fI,au,TF⟩:=A.oFault;obtain ⟨tI,aw,U⟩:=A.oToken;have digit:ax P w K mg base 1 "is_digit" ["byte"] jfy:=yn A.kDigit λf fd F=>jxo F A.c_ZERO A.c_NINE
 obtain ⟨gD,gdD,okD,bD,kD,mD⟩:=id digit;have wordB:ax P w K mg base 2 "is_word_byte" ["byte"] jif:=yn A.kWordB λf fd F=>jxe F okD bD kD mD A.c_UNDERSCORE
 obtain ⟨gW,gdW,okW,bW,kW,mW⟩:=id wordB;have pass:ax P w K mg base 1 "pass_over" ["text", "place"] (jnl K):=yn A.kPass λf fd F=>j0c F A.n_len A.c_LINE_FEED A.c_HASH A.c_BLANK
 have bytes:ax P w K mg base 3 "check_bytes" ["text"] (jlg K D.CF):=yn A.kBytes λf fd F=>jxq F TF A.n_enumerate A.c_LINE_FEED A.c_BLANK A.c_LAST_ALLOWED A.c_FORBIDDEN_BYTE;have num:ax P w K mg base 3 "cut_number" ["text", "place"] (jal K D.CF D.CT λc=>Vanbka.digit c=true):=yn A.kNum λf fd F=>j2k F TF U okD bD kD mD A.n_len A.c_ZERO A.c_LONGEST_NUMBER A.c_WRONG_TOKEN
 have spell:ax P w K mg base 1 "spell_lower" ["word"] (jle K):=yn A.kSpell λf fd F=>jxj F A.n_len A.c_LOWER_A A.c_LL;obtain ⟨gS,gdS,okS,bS,kS,mS⟩:=id spell;have word:ax P w K mg base 3 "cut_word" ["text", "place"] (jal K D.CF D.CT λc=>Vanbka.letter c=true):=yn A.kWord λf fd F=>jz6 F TF U okW bW kW mW okS bS kS mS A.n_len A.tRes A.c_LONGEST_WORD A.c_WRONG_TOKEN
 have quoted:ax P w K mg base 3 "cut_quoted" ["text", "place"] (jal K D.CF D.CT λc=>c=34):=yn A.kQuoted λf fd F=>ju0 F TF U A.n_len A.dEsc A.c_QUOTE A.c_LINE_FEED A.c_BACKSLASH A.c_WRONG_TOKEN;have sign:ax P w K mg base 3 "cut_sign" ["text", "place"] (jal K D.CF D.CT λc=>Vanbka.letter c=false/\Vanbka.digit c=false/\c≠34):=yn A.kSign λf fd F=>jz_ F TF U A.n_tuple A.dTwo A.dOne A.c_WRONG_TOKEN
 have tok:ax P w K mg base 4 "cut_token" ["text", "place"] (jal K D.CF D.CT λ_=>True):=yn A.kTok λf fd F=>j2j F digit wordB num word quoted sign A.c_QUOTE;have toks:ax P w K mg base 5 "cut_tokens" ["text"] (jja K D.CF D.CT):=yn A.kToks λf fd F=>jz7 F U pass tok A.n_len
 have rtoks:ax P w K mg base 6 "read_tokens" ["text"] (jih K D.CF D.CT):=yn A.kRToks λf fd F=>jxk F bytes toks;have long:ax P w K mg base 1 "is_too_long" ["text"] (jnm K):=yn A.kLong λf fd F=>j0f F A.n_len A.c_LONGEST_TEXT
 obtain ⟨nI,ndI,TN⟩:=A.oTree;obtain ⟨cR,rI,rdI,mkR,FR,bR⟩:=A.oReader;have Rd:jas K mg D.CR:=⟨cR⟩
 have look:ja5 P w K mg base D.CR 1 "look" ["self"] (jfw D.CT D.CR):=jit A.mLook λf fd F=>j0e F U Rd;have behind:ja5 P w K mg base D.CR 1 "look_behind" ["self"] (jgi D.CT D.CR):=jit A.mBehind λf fd F=>ju2 F U Rd
 have here:ja5 P w K mg base D.CR 1 "here" ["self"] (jhk D.CT D.CR):=jit A.mHere λf fd F=>j0i F U Rd;have last:ja5 P w K mg base D.CR 1 "behind_last" ["self"] (jj4 D.CT D.CR):=jit A.mLast λf fd F=>j0g F U Rd
 have move:ja5 P w K mg base D.CR 2 "move_on" ["self"] (jhj D.CT D.CR):=jit A.mMove λf fd F=>j0d F Rd look;have take:ja5 P w K mg base D.CR 3 "take" ["self", "kind"] (jat D.CF D.CT D.CR):=jit A.mTake λf fd F=>jz8 F TF U Rd look here A.c_NO_PROGRAM
 have great:ax P w K mg base 1 "greatest_depth" ["trees"] (jej K D.CN):=yn A.kGreat λf fd F=>jxn F TN.c A.n_max;have B:z_ P w K mg base D:=⟨A.oFault,Rd,⟨nI,ndI,TN,j3t TN great A.n_max⟩,look,behind,here,move,take,A.c_NO_PROGRAM,A.n_len,A.c_OR_LINE,A.c_NOT_LINE,A.c_COMPARED_LINE,A.c_SIGNED_LINE,last⟩
 have T:jyl K mg:=⟨A.kExpr,A.kJoined,A.kSigned,A.kReached,A.kReach,A.kListed,A.kSimple,A.kBrack,A.kRecord,A.kFn,A.kBuilt,A.kBlock,A.kStmts,A.kStmt,A.kBind,A.kShow,A.kIf,A.kWhile,A.kFor,A.kSlider,A.kChoice⟩
 have joins:ax P w K mg base 1 "joins_at" ["kind", "strength"] jfx:=yn A.kJoins λf fd F=>jxm F A.dSides2.1;have whole:ax P w K mg base 4 "read_whole" ["reader"] (jig D):=yn A.kWhole λf fd F=>jxf F B
 have names:ax P w K mg base 4 "read_leaves" ["reader", "kind"] (jb6 D "NAME" Vanbka.name Vanbka.namesMore):=yn A.kLeaves λf fd F=>jml jsu F B;have quots:ax P w K mg base 4 "read_leaves" ["reader", "kind"] (jb6 D "QUOTED" Vanbka.quoted Vanbka.quotedMore):=yn A.kLeaves λf fd F=>jml jos F B
 have R:=reads T B joins whole names quots A.dBuilt A.tShow;have prog:ax P w K mg base 505 "read_program" ["tokens"] (jnk D):=yn A.kProg λf fd F=>j0b F (rI:=rI) (rdI:=rdI) ⟨cR,mkR,j3s FR Rd,bR⟩ R
 have brs:ax P w K mg base 3 "check_brackets" ["tokens"] (jgh D):=yn A.kBr λf fd F=>jpm F TF U A.c_DEEP_BRACKET A.c_DEEPEST_BRACKET A.tOpen A.tClose;have depth:ax P w K mg base 3 "check_depth" ["program"] (jlf D):=yn A.kDepth λf fd F=>jxp F TF great A.c_DEEP_PROGRAM A.c_DEEPEST_PROGRAM
 have fin:ax P w K mg base 3 "end_token" ["text"] (jrq K D.CT):=yn A.kEnd λf fd F=>j2m F U A.n_len;have good:ax P w K mg base 506 "read_good" ["text"] (jj6 K D):=yn A.kGood λf fd F=>j0j F rtoks fin brs prog depth
 have spS:ax P w K mg base 1 "spell" ["signs"] z5:=yn A.kSpellS λf fd F=>juv F A.n_ord;have WB:jaa P w K mg base D:=⟨TN.c,spS,yn A.kJoin λf fd F=>j0h F spS A.n_enumerate,yn A.kWNumber λf fd F=>jr9 F spS A.n_str,yn A.kWQuoted λf fd F=>jr8 F spS A.dEscs,yn A.kStrength λf fd F=>jpl F A.dSides2.1 A.dOth A.c_GREATEST_STRENGTH,yn A.kWSign λf fd F=>jxd F spS A.c_PERCENT,A.c_ANY,A.c_CHOSEN,A.c_DENIED,A.c_REACHED,A.dSides2.1,A.dSides2.2,A.n_len,A.n_list,A.n_zip⟩
 have WK:jwb K mg:=⟨A.kWListed,A.kWBlock,A.kWRecord,A.kWFunction,A.kWReach,A.kWChosen,A.kWBetween,A.kWSimple,A.kWBare,A.kWExpr,A.kWBlocks,A.kWSlider,A.kWChoice,A.kWStatement⟩
 have WR:=jtl WK WB 40;have GP:=jpn A.kWProgram WB WR
 have co:ax P w K mg base 1 "count_opening" ["tokens"] (jwo D):=yn A.kCO λf fd F=>j3w F U A.tOpen A.n_len;have ct:ax P w K mg base 1 "count_trees" ["program"] (jwn K D):=yn A.kCT λf fd F=>j3v F TN.c A.n_len A.n_list
 exact jxh Fa TF long good GP rtoks co ct great A.c_TOO_LONG A.c_NOT_GOOD
theorem j38{fa:Addr}(hfa:mg "weigh"=some (.ref fa))(A:jzb P w K mg D) :
  ∃ fd:FuncData,(∀ (s:Shared) (us:List Value),us.length=(["text"]:List Str).length->BindsTo s fd ⟨us,[]⟩ ((["text"]:List Str).zip us))/\∀ base:Heap,K.In base->base.Ns mainGlobals mg->xb P w K mg base (CXF P w) 507 fa fd ["text"] (spT K Vanbka.weighTold):=by
 obtain ⟨f,fd,F,b,kp,m⟩:=A.kCall;have e:=hfa.symm.trans m
 cases e;refine ⟨fd,?_,λbase _ _=>j20 (base:=base) A F⟩;obtain ⟨oc,od,kV,doc,pm,an,ac,ct,osl,rfl,lk,hcd⟩:=F.ex;exact λs us hu=>match us,hu with | [_],_=>.of_eq rfl
end
theorem j03{l:List Int}(h:∀ z∈l,0<=z/\z<=255):told (Vanbka.weighTold (VanbkaNeutral.text l))=PyVanbka.weigh l:=by
 have e:VanbkaNeutral.callOf [[8],l]=if NeutralIO.bytes l then some (.weigh (VanbkaNeutral.text l)) else none:=rfl
 unfold PyVanbka.weigh VanbkaNeutral.step;rw [e,jyd h,if_pos rfl];rfl
open PySem.W in
theorem j3f{q:Program}{loose:List Str}{XP:(Str->Option Value)->Heap->Prop}{YP:World->Heap->Prop}{d:DefRec}{K:Params->PySem.W.Frag}(hdf:d.params.defaults=[])
  (hY:∀ (w:World) (h:Heap),YP w h->(K w.params).In h)
  (F:∀ (w:World) (mg:Str->Option Value) (fa:Addr) (h:Heap),YP w h->(K w.params).In h->h.Ns mainGlobals mg->mg d.name=some (.ref fa)->
   ∃ fd:FuncData,(∀ (s:Shared) (us:List Value),us.length=(["text"]:List Str).length->BindsTo s fd ⟨us,[]⟩ ((["text"]:List Str).zip us))/\
    ∀ base:Heap,(K w.params).In base->base.Ns mainGlobals mg->xb PySem.Challenge.rw_celltexts_s09_weigh.prog w (K w.params) mg base (CXF PySem.Challenge.rw_celltexts_s09_weigh.prog w) 507 fa fd ["text"] (spT (K w.params) Vanbka.weighTold)) :
  PySem.W.WalkOS q loose XP YP PySem.Challenge.rw_celltexts_s09_weigh d [] (λf vs=>PySem.call f vs):=by
 refine jtn (r:=PySem.Challenge.rw_celltexts_s09_weigh) (k:=507) (CX:=λw=>CXF PySem.Challenge.rw_celltexts_s09_weigh.prog w) (ps:=["text"]) (sp:=λw=>spT (K w.params) Vanbka.weighTold) (by decide +kernel) hdf rfl ⟨rfl,by decide,by decide⟩ hY F ?_ ?_
 ·intro w H xs a hO hwi hask hx;cases hx with
  | cons h1 h2 =>
   cases h2;cases h1 with
   | lst hs ha =>
    have e:=L2.jq1 a.1 _ ha;subst e;have q:((Codec.inLen 0 2000 a.1 && a.1.all (Codec.inInt 0 255)) && true)=true:=hwi
    rw [Bool.and_eq_true,Bool.and_eq_true] at q;have rg:∀ z∈a.1,0<=z/\z<=255:=λz hz=>by
     have:=List.all_eq_true.mp q.1.2 z hz;simpa [Codec.inInt] using this
    refine ⟨_,VanbkaNeutral.text a.1,rfl,by rw [jze rg];exact hs,λl H' hl=>?_⟩;rw [j03 rg] at hl;exact .lst (az.of hl) (L2.jq3 _)
 ·rintro w H s e s' ⟨x,T,C,dx,H',_,_,_,_,_,_,_,_,_,_,z⟩;exact z
end Prg
end
namespace PySem.W.Fast
def tw10013901508216810078:=Nat
def tw1001827562069266259:=Nat
def tw10066044701370325037:=Nat
def tw10094216889938827124:=Nat
def tw10146529956408645301:=Nat
def tw10167250122613428259:=Nat
def tw10170180041730413643:=Nat
def tw10171391868822012421:=Nat
def tw10190534237670952338:=Nat
def tw10233064439317518872:=Nat
def tw1024553567854028958:=Nat
def tw10277832433954584691:=Nat
def tw10278261880782530357:=Nat
def tw10296793206201437407:=Nat
def tw10308630395312488065:=Nat
def tw10322900818117836658:=Nat
def tw10429092849081283536:=Nat
def tw10506580437372301957:=Nat
def tw10523054081081871407:=Nat
def tw10529274974496879682:=Nat
def tw10530175332398363517:=Nat
def tw1053490749566066167:=Nat
def tw10624207346896837169:=Nat
def tw10628164803675046847:=Nat
def tw10687330573122039695:=Nat
def tw10704077590746739831:=Nat
def tw10752131062888386266:=Nat
def tw10762424119564945998:=Nat
def tw10800000217356355284:=Nat
def tw10835624370560378758:=Nat
def tw10891035406994458439:=Nat
def tw10938712395023968071:=Nat
def tw10951912275385539685:=Nat
def tw10991162596882312655:=Nat
def tw11041090258434681987:=Nat
def tw11116665712180376659:=Nat
def tw11146319224662896629:=Nat
def tw1116687452819249014:=Nat
def tw11178867681426243496:=Nat
def tw11189111535633059983:=Nat
def tw11218064318735285225:=Nat
def tw11254826400597741266:=Nat
def tw11298046839451223198:=Nat
def tw11343101098655332470:=Nat
def tw11366083832205181635:=Nat
def tw1136850173358878577:=Nat
def tw11395401784548429597:=Nat
def tw11401073044662634862:=Nat
def tw11401710491826076417:=Nat
def tw11416005367249147442:=Nat
def tw11417768094207296243:=Nat
def tw11435326572473920650:=Nat
def tw11462360039088678359:=Nat
def tw11477001947408797687:=Nat
def tw11486769260265686142:=Nat
def tw11511324431517687948:=Nat
def tw11598570067939705696:=Nat
def tw11646310014015394781:=Nat
def tw11703738958107579079:=Nat
def tw11767423782144262828:=Nat
def tw11785887459061808555:=Nat
def tw11800603635867108014:=Nat
def tw11803227716975815169:=Nat
def tw11862224980848918394:=Nat
def tw11882014485960932523:=Nat
def tw11918198831724856882:=Nat
def tw11932194263343997926:=Nat
def tw12036713659823051650:=Nat
def tw12054939361364566314:=Nat
def tw1206047635421808738:=Nat
def tw12072181089308487207:=Nat
def tw12110069142278015341:=Nat
def tw12183933970654086145:=Nat
def tw12207813943581640688:=Nat
def tw12299116208009835215:=Nat
def tw1231884363925984409:=Nat
def tw12335603428798458929:=Nat
def tw12377757965785906891:=Nat
def tw12397213040806655052:=Nat
def tw12424892980242874296:=Nat
def tw12472123145575085440:=Nat
def tw12475775020430821699:=Nat
def tw12500504852747199296:=Nat
def tw12548339029953550155:=Nat
def tw12561955559327844430:=Nat
def tw12565882237256220661:=Nat
def tw1258303173111448741:=Nat
def tw12583561906576583870:=Nat
def tw12597457001390977879:=Nat
def tw12616558596949351828:=Nat
def tw1262564686014600940:=Nat
def tw12626190660914202683:=Nat
def tw12642517075232416928:=Nat
def tw12674542732834024810:=Nat
def tw12735778261503128884:=Nat
def tw12748474302992190621:=Nat
def tw12766225715326568051:=Nat
def tw12810388529214487310:=Nat
def tw12817209825134633469:=Nat
def tw12847687266764875113:=Nat
def tw12901187700388809273:=Nat
def tw13022732566703174416:=Nat
def tw13065412273089411147:=Nat
def tw13074106573273969373:=Nat
def tw13129537946397314683:=Nat
def tw13141208372735723238:=Nat
def tw13203713724403186647:=Nat
def tw13222474664399313748:=Nat
def tw13298098596392562189:=Nat
def tw13312013031577399216:=Nat
def tw13337097609859133292:=Nat
def tw1335036041672793104:=Nat
def tw13367419328099125977:=Nat
def tw13380934581065505698:=Nat
def tw13400266661338662152:=Nat
def tw13404511335759498767:=Nat
def tw13424143687245356899:=Nat
def tw13424859750798427910:=Nat
def tw13437480250188227962:=Nat
def tw1347887130748580637:=Nat
def tw13496270085077498342:=Nat
def tw13507623511737973768:=Nat
def tw13537043725662426660:=Nat
def tw13540990573732111500:=Nat
def tw13541134436272657784:=Nat
def tw13546422263600951782:=Nat
def tw13568709758883405845:=Nat
def tw1362521786728013708:=Nat
def tw13645461478219855770:=Nat
def tw13703034095951296129:=Nat
def tw13706951466246449564:=Nat
def tw13766468600200809891:=Nat
def tw13783784032316548674:=Nat
def tw1379616377718834057:=Nat
def tw13841495244970201000:=Nat
def tw13868540729471953185:=Nat
def tw13892043032603266238:=Nat
def tw13983948692642138924:=Nat
def tw14007665579746116759:=Nat
def tw14122790544977431251:=Nat
def tw14123429831816463357:=Nat
def tw14139186249641784242:=Nat
def tw14193460139344544266:=Nat
def tw14237841624283749585:=Nat
def tw14288891180853016107:=Nat
def tw14316109705500450978:=Nat
def tw1435324512581519855:=Nat
def tw14354946928305161994:=Nat
def tw14385534662894603798:=Nat
def tw14421411064252430815:=Nat
def tw14426105169328369045:=Nat
def tw14438352545111248898:=Nat
def tw14438837002542374062:=Nat
def tw1446629393655973969:=Nat
def tw14509563410712191010:=Nat
def tw14528067169115575316:=Nat
def tw14528442355458784247:=Nat
def tw14592497745106209782:=Nat
def tw14602037795436316505:=Nat
def tw14650653698241298466:=Nat
def tw14655984628971392538:=Nat
def tw147118290061604711:=Nat
def tw14796192953324086455:=Nat
def tw14902814760327044790:=Nat
def tw14956837216906549642:=Nat
def tw14965871531356458251:=Nat
def tw15001871103739797600:=Nat
def tw15019986581268235730:=Nat
def tw15058729717635973522:=Nat
def tw15068372186287528592:=Nat
def tw15144661097498158397:=Nat
def tw15149248299352802830:=Nat
def tw15168115543853816712:=Nat
def tw15181882793691440321:=Nat
def tw1525950186600926152:=Nat
def tw15270947174318472944:=Nat
def tw15292439882161258290:=Nat
def tw15298177496451763994:=Nat
def tw15441098930006957455:=Nat
def tw15448269376366121257:=Nat
def tw15453517285864169412:=Nat
def tw15457802483280145599:=Nat
def tw15537776816585484164:=Nat
def tw15578240336074191746:=Nat
def tw15582175238411122382:=Nat
def tw15714178305197665297:=Nat
def tw15731467660857151369:=Nat
def tw15737358932951340807:=Nat
def tw15740242319722532874:=Nat
def tw15864425768913306485:=Nat
def tw15918992177368668939:=Nat
def tw1597388176590890148:=Nat
def tw15980114113172533393:=Nat
def tw15980577092867716993:=Nat
def tw16016212059222937956:=Nat
def tw16038675089948537831:=Nat
def tw16159950703607709566:=Nat
def tw16164150149783052947:=Nat
def tw16242952851785896682:=Nat
def tw16249027172855331833:=Nat
def tw16301494056276154734:=Nat
def tw16310471670604099655:=Nat
def tw16330262268282634757:=Nat
def tw16339732312524076338:=Nat
def tw1634123339982542048:=Nat
def tw16347455211303146246:=Nat
def tw16407498577620700846:=Nat
def tw16564649475074192186:=Nat
def tw16570027787719335868:=Nat
def tw16644040660956445143:=Nat
def tw16682057012110482530:=Nat
def tw16692097215011081461:=Nat
def tw16709703838174440989:=Nat
def tw16741375332804668976:=Nat
def tw16757719258778932595:=Nat
def tw16763333411474395463:=Nat
def tw1687682627024491708:=Nat
def tw17005160862485295647:=Nat
def tw17012817600881293340:=Nat
def tw17020748070006893928:=Nat
def tw17028584754655980754:=Nat
def tw17055249216538512086:=Nat
def tw17066118646668103449:=Nat
def tw17129347059541710641:=Nat
def tw1712982846720614718:=Nat
def tw17141991804109332629:=Nat
def tw17162956031767905760:=Nat
def tw17206075627082424721:=Nat
def tw17211453613089190362:=Nat
def tw17218792439625613045:=Nat
def tw17221636502994189751:=Nat
def tw17247378155339324948:=Nat
def tw17316035018867838058:=Nat
def tw17344570249810741916:=Nat
def tw17360412570696773329:=Nat
def tw17364222595982569792:=Nat
def tw17378053780755694092:=Nat
def tw17413293018071682762:=Nat
def tw1756593111357302590:=Nat
def tw17572474764953888869:=Nat
def tw17585398940725272200:=Nat
def tw17600467053280258830:=Nat
def tw17634038617130135547:=Nat
def tw17729689488262304820:=Nat
def tw17734961616383734241:=Nat
def tw17744787026753900938:=Nat
def tw17745439767640006540:=Nat
def tw17786575662557301242:=Nat
def tw17787378608187288730:=Nat
def tw17808300060569739082:=Nat
def tw17863943114955645199:=Nat
def tw17865409729182563258:=Nat
def tw17881675146927020475:=Nat
def tw17899605358601902838:=Nat
def tw17949184217770121262:=Nat
def tw17959280312870232831:=Nat
def tw17983058878727112064:=Nat
def tw17990770051962767262:=Nat
def tw1799322853321293345:=Nat
def tw1803339730870287330:=Nat
def tw18063004555319994791:=Nat
def tw1806798842034785169:=Nat
def tw1806967695105506716:=Nat
def tw1809539298266294777:=Nat
def tw18096424556212322450:=Nat
def tw18118282528267568375:=Nat
def tw18135081615231422710:=Nat
def tw18151490396796010046:=Nat
def tw18176750991832967925:=Nat
def tw18208274231235474156:=Nat
def tw18227403593268696455:=Nat
def tw1823517939666317566:=Nat
def tw18261163964596936477:=Nat
def tw18268590603038249468:=Nat
def tw18271016471794093947:=Nat
def tw18356248537644660523:=Nat
def tw18357422320208437314:=Nat
def tw18359680649886766601:=Nat
def tw18384092045995718436:=Nat
def tw18395225666568409339:=Nat
def tw1853571820088355605:=Nat
def tw1921910988477746154:=Nat
def tw1926806856768922791:=Nat
def tw1981996277535559740:=Nat
def tw1984527777143131305:=Nat
def tw2005390750358059221:=Nat
def tw2044350498476823131:=Nat
def tw2080497470512536644:=Nat
def tw2086872903078808120:=Nat
def tw2121201055576039734:=Nat
def tw2150969638350408838:=Nat
def tw2199618640493474967:=Nat
def tw2225031100009519136:=Nat
def tw2309218745140775655:=Nat
def tw2315295457494886656:=Nat
def tw2397075409235723030:=Nat
def tw2507886821040669416:=Nat
def tw2578999037390791171:=Nat
def tw2596671134235008251:=Nat
def tw2600263619548079286:=Nat
def tw2606887444564606111:=Nat
def tw2609013880383789240:=Nat
def tw2677973508514784396:=Nat
def tw2685631034871341186:=Nat
def tw2705160927085994621:=Nat
def tw2735673612608944866:=Nat
def tw2779452628358830694:=Nat
def tw2800387321660726140:=Nat
def tw2803452693347457250:=Nat
def tw2818337369734354892:=Nat
def tw2825439511712231955:=Nat
def tw2830477741224639576:=Nat
def tw2838050222846157998:=Nat
def tw285215228528282391:=Nat
def tw2876807824733213175:=Nat
def tw2880770649634502672:=Nat
def tw2897819846410900365:=Nat
def tw2907893402234066071:=Nat
def tw2948169320987316844:=Nat
def tw2981473907569028357:=Nat
def tw2994492489023894771:=Nat
def tw3016418349852100524:=Nat
def tw3068774049490385298:=Nat
def tw3108767763348930145:=Nat
def tw3193956480430003078:=Nat
def tw3197031493254060443:=Nat
def tw3204867362165482155:=Nat
def tw3294295189242170594:=Nat
def tw3302175213685227155:=Nat
def tw3313983632517621627:=Nat
def tw3346491007628203222:=Nat
def tw335396574922951426:=Nat
def tw3448734193771792299:=Nat
def tw345931841202159786:=Nat
def tw3473114216936716738:=Nat
def tw3516229915582588175:=Nat
def tw3517180237115074534:=Nat
def tw355994541520443390:=Nat
def tw357891584405952228:=Nat
def tw3586950557537130124:=Nat
def tw3593592874035049850:=Nat
def tw3702988880056731028:=Nat
def tw3712535380919396588:=Nat
def tw3737086980831674221:=Nat
def tw3749868677845030424:=Nat
def tw3750925743727292298:=Nat
def tw3770244714746310883:=Nat
def tw3782840844106163973:=Nat
def tw3784161713047631576:=Nat
def tw3809476300631468399:=Nat
def tw3836986973423394998:=Nat
def tw3839265314895326064:=Nat
def tw3857509559934474426:=Nat
def tw386739582755544362:=Nat
def tw3888808070415452778:=Nat
def tw3912938698444889449:=Nat
def tw3944806991335931327:=Nat
def tw3948699457412929475:=Nat
def tw3965821421135707119:=Nat
def tw3993442804527451716:=Nat
def tw4030547122273214502:=Nat
def tw4055017547086447173:=Nat
def tw4059600780091491586:=Nat
def tw4077527879732362443:=Nat
def tw4092578858517713761:=Nat
def tw4102370200394552546:=Nat
def tw411053061330369149:=Nat
def tw4161778618816990814:=Nat
def tw4182906772985706708:=Nat
def tw4192216186842818657:=Nat
def tw4199618933215652321:=Nat
def tw4250601049797137937:=Nat
def tw4370093637573042740:=Nat
def tw4370635435170423497:=Nat
def tw4377715336450411709:=Nat
def tw4377943027144576091:=Nat
def tw4403884716532845162:=Nat
def tw4414335922635806864:=Nat
def tw4416800988134678452:=Nat
def tw4437475158580005509:=Nat
def tw4466533324033247926:=Nat
def tw4473561274614537460:=Nat
def tw4475984357381698982:=Nat
def tw4508234438186700923:=Nat
def tw460332274909385914:=Nat
def tw46370846732656416:=Nat
def tw4682659136054067402:=Nat
def tw4687076364281719712:=Nat
def tw4720739097591600260:=Nat
def tw4730498577633123754:=Nat
def tw4756100311862582321:=Nat
def tw4774215868157836193:=Nat
def tw4786887748077986478:=Nat
def tw4810008949364439463:=Nat
def tw4841323362852578304:=Nat
def tw4862121287017593709:=Nat
def tw4862479279913841251:=Nat
def tw4872545076506636136:=Nat
def tw4914646882348862025:=Nat
def tw4936608935684280676:=Nat
def tw4944421547958584973:=Nat
def tw4951488452579902102:=Nat
def tw4963440406431063551:=Nat
def tw4998335869741095828:=Nat
def tw504377099773044184:=Nat
def tw5095078956640448105:=Nat
def tw5112831237967764189:=Nat
def tw5219011247753741756:=Nat
def tw5255512227141398372:=Nat
def tw5262709708340135451:=Nat
def tw5303877798848800505:=Nat
def tw5324379756916671845:=Nat
def tw5354730848394445045:=Nat
def tw5417577947379857893:=Nat
def tw5429655534395636869:=Nat
def tw5499292383980659446:=Nat
def tw5577888205500021267:=Nat
def tw5586905831243263194:=Nat
def tw5651813041512953594:=Nat
def tw5661496456317012795:=Nat
def tw5663775307948692871:=Nat
def tw5675791458458314801:=Nat
def tw5685622199628521512:=Nat
def tw5701184699182147836:=Nat
def tw5703685875889572799:=Nat
def tw5717089938283469283:=Nat
def tw5735156177692376691:=Nat
def tw5786014278587470936:=Nat
def tw5788472351428518444:=Nat
def tw5860956415488154385:=Nat
def tw5875532906771710892:=Nat
def tw5876746540391346520:=Nat
def tw5919548246978171796:=Nat
def tw5922039922035862897:=Nat
def tw593161604163587521:=Nat
def tw5982513059848509001:=Nat
def tw5987625806084982123:=Nat
def tw6016590113413180218:=Nat
def tw6017961774845621282:=Nat
def tw6025433746353347125:=Nat
def tw6043116278711611388:=Nat
def tw617106084179986530:=Nat
def tw619987926072579930:=Nat
def tw6205474523790354386:=Nat
def tw6227106551437484348:=Nat
def tw6240376390408321531:=Nat
def tw6303205430678382674:=Nat
def tw6344162719341386475:=Nat
def tw637753841742881502:=Nat
def tw6453787278147680474:=Nat
def tw6455338446303483241:=Nat
def tw6545524973902342499:=Nat
def tw6596338068020306247:=Nat
def tw6644521858697887538:=Nat
def tw6650549174694958525:=Nat
def tw6659157150003703164:=Nat
def tw6659324163249428077:=Nat
def tw6673051134550788351:=Nat
def tw6735316186361830016:=Nat
def tw6738876244548180513:=Nat
def tw6853446227659156989:=Nat
def tw6878481837966175547:=Nat
def tw6889433271398666432:=Nat
def tw6904311730566807238:=Nat
def tw6975984527186326082:=Nat
def tw6977214999991137700:=Nat
def tw6981485008591782899:=Nat
def tw6992385061622195765:=Nat
def tw7028212278701095941:=Nat
def tw7049114596668039592:=Nat
def tw7090410081870471673:=Nat
def tw709252850535323333:=Nat
def tw7093509951371502016:=Nat
def tw7102337821977130407:=Nat
def tw7114452934240138551:=Nat
def tw7123738257276299358:=Nat
def tw721127704517482573:=Nat
def tw7227275999274054936:=Nat
def tw7256508119288156438:=Nat
def tw7271373182061600879:=Nat
def tw7287476697785619777:=Nat
def tw7303511797068458466:=Nat
def tw7335565991166570731:=Nat
def tw7374264532571963094:=Nat
def tw7451433843478223091:=Nat
def tw7551858261588011935:=Nat
def tw7557536180252237088:=Nat
def tw7574709315798201343:=Nat
def tw7575474072105257244:=Nat
def tw7579430278549385462:=Nat
def tw7620863651304043074:=Nat
def tw7649131761105983358:=Nat
def tw7667250022001105440:=Nat
def tw7677309042257091212:=Nat
def tw7693237137935353455:=Nat
def tw7741477561404201684:=Nat
def tw7791820389623395008:=Nat
def tw7797761454713954302:=Nat
def tw7843460361637993573:=Nat
def tw7888748608467653667:=Nat
def tw7908339282021903693:=Nat
def tw7909022120674069576:=Nat
def tw7922179325860260531:=Nat
def tw7938155544807859546:=Nat
def tw7973841509407076855:=Nat
def tw797610647264450115:=Nat
def tw7991084816895548534:=Nat
def tw8031331671034434925:=Nat
def tw8063147471058209910:=Nat
def tw8066428698920009221:=Nat
def tw8139066053794216691:=Nat
def tw8185591839169738839:=Nat
def tw8214189541544134144:=Nat
def tw822910846191691202:=Nat
def tw825367433718685285:=Nat
def tw8267522401675480851:=Nat
def tw8287494682058351980:=Nat
def tw8357135105310144119:=Nat
def tw8389543146031064434:=Nat
def tw8417182066315419886:=Nat
def tw8424642059448539266:=Nat
def tw8425980083482852149:=Nat
def tw8428677902805033703:=Nat
def tw8430349927343323566:=Nat
def tw8431351602107260536:=Nat
def tw8432175934379868919:=Nat
def tw8439000996573708836:=Nat
def tw8458783200982723164:=Nat
def tw8467866683094504556:=Nat
def tw8476258918742068208:=Nat
def tw8495861783054715653:=Nat
def tw8534539456317685380:=Nat
def tw8573628930265225485:=Nat
def tw863905176668900783:=Nat
def tw8648342689156971465:=Nat
def tw8668780447500623365:=Nat
def tw8680261309736406763:=Nat
def tw869650466728459691:=Nat
def tw8723225716236880494:=Nat
def tw8733498525908959059:=Nat
def tw8784226274530998191:=Nat
def tw8827717459436615131:=Nat
def tw8857183748941176224:=Nat
def tw8921821532339477083:=Nat
def tw8932597508598131833:=Nat
def tw8941555960887761676:=Nat
def tw894702619477638767:=Nat
def tw9013861307437722723:=Nat
def tw901583126499279121:=Nat
def tw9029579708688147063:=Nat
def tw9034688158846959984:=Nat
def tw9046019949004561831:=Nat
def tw908175624359160166:=Nat
def tw909818141930597745:=Nat
def tw9102281971837228661:=Nat
def tw9111704373652746807:=Nat
def tw9140450170128330310:=Nat
def tw9232520724298990381:=Nat
def tw9273817206138848432:=Nat
def tw9301695909611078773:=Nat
def tw9388306891535920765:=Nat
def tw9407465718500039595:=Nat
def tw9425079579548325595:=Nat
def tw9441216807598825283:=Nat
def tw9538083827342430911:=Nat
def tw9555777837152462998:=Nat
def tw9570593243837923819:=Nat
def tw9586202872879846073:=Nat
def tw960675264462474183:=Nat
def tw9638631003566380827:=Nat
def tw9705490137925308859:=Nat
def tw9774125043194907463:=Nat
def tw9826020193999241115:=Nat
def tw9878461120999745016:=Nat
def tw9883331723746256451:=Nat
def tw9908247928596802803:=Nat
def tw9914604144031836883:=Nat
def tw9927953924417041033:=Nat
def tw9947407598533504053:=Nat
def tw9962181634420019354:=Nat
def tw9969732671843500305:=Nat
def tw997171695389890965:=Nat
def tw13579158533780687383:=Nat
def tw10986612957380000697:=Nat
def tw16098932557652381955:=Nat
def tw8922169620136520470:=Nat
def tw14894421702764140209:=Nat
def tw9848815790397825699:=Nat
def tw16951937960873529533:=Nat
def tw3729439316825346147:=Nat
def tw6819992129521869323:=Nat
def tw14254562613577038962:=Nat
def tw10657316583327066018:=Nat
def tw10846534215290401115:=Nat
def tw16022148811638996604:=Nat
def tw3712344121808614817:=Nat
def tw6813234467942980559:=Nat
def tw5992455535848381679:=Nat
def tw12563513402693857014:=Nat
def tw4928157187132934040:=Nat
def tw13984439492910553290:=Nat
def tw8718570451347264408:=Nat
def tw412873764525580686:=Nat
def tw14821354318282693927:=Nat
def tw17971300408766197472:=Nat
def tw10146891734681621783:=Nat
def tw15769643475478575682:=Nat
def tw695791982649797039:=Nat
def tw8050295264171201195:=Nat
def tw13289110762562868181:=Nat
def tw16404098593991119607:=Nat
def tw99094738411761797:=Nat
def tw8075699134449343806:=Nat
def tw13390611201729820647:=Nat
def tw8865181661713517728:=Nat
def tw3728805333265047628:=Nat
def tw3010307108111626998:=Nat
def tw9283288855239031603:=Nat
def tw8772209822619310646:=Nat
def tw5691052233639966295:=Nat
def tw5002374533873246020:=Nat
def tw5236558663709048597:=Nat
def tw4554402459144886603:=Nat
def tw13069534778649625641:=Nat
def tw6801235491071938976:=Nat
def tw11444557559475244288:=Nat
def tw18428156959221510937:=Nat
def tw2982657078346600142:=Nat
def tw17220988483237115871:=Nat
def tw17862641398417434386:=Nat
def tw3989433910424890884:=Nat
def tw16114772215671703654:=Nat
def tw10840105383196792718:=Nat
def tw11498691736345047279:=Nat
def tw11835071455928629576:=Nat
def tw3839139830260760045:=Nat
def tw18088720312475334017:=Nat
def tw4911351748569880764:=Nat
def tw165473646428741866:=Nat
def tw1759023498279026420:=Nat
def tw13485321370517313480:=Nat
def tw8406188742499243356:=Nat
def tw12822925801602242684:=Nat
def tw7126154418834552361:=Nat
def tw11766853287770473314:=Nat
def tw3694826761768400272:=Nat
def tw15005252458309243453:=Nat
def tw7651528808971029498:=Nat
def tw8589871817630984617:=Nat
def tw16472839351152873525:=Nat
def tw11194311565735872770:=Nat
def tw16834962081069548970:=Nat
def tw4018653103646520786:=Nat
def tw6929432000746861366:=Nat
def tw17293786616191761415:=Nat
def tw14151477993402884183:=Nat
def tw4425031249270633060:=Nat
def tw5945680351566493502:=Nat
def tw4937321542447917722:=Nat
def tw1614042705515129930:=Nat
def tw5954296948764546018:=Nat
def tw11237239368960771699:=Nat
def tw5004013481509670717:=Nat
def tw5837976749899762729:=Nat
def tw11897158268115588378:=Nat
def tw2768772690655986036:=Nat
def tw11566484003025739179:=Nat
def tw578125255992011031:=Nat
def tw11364329314803671737:=Nat
def tw1879331103274031306:=Nat
def tw6695130899869789960:=Nat
def tw3117277187863421855:=Nat
def tw13232947068080391301:=Nat
def tw1605004543251467094:=Nat
def tw12714941896825856753:=Nat
def tw11007798567230224233:=Nat
def tw8240713117850635290:=Nat
def tw18262710980614847868:=Nat
def tw2480563442603272017:=Nat
def tw14570441423669954728:=Nat
def tw7691291553220045840:=Nat
def tw13750319708675961134:=Nat
def tw9370942483895433507:=Nat
def tw11199931876619469129:=Nat
def tw13229580079975454410:=Nat
def tw13678923689089192938:=Nat
def tw13981669201627248636:=Nat
def tw13568165289309621207:=Nat
def tw10838199871442397277:=Nat
def tw13459020227933175394:=Nat
def tw15741436402764661390:=Nat
def tw5623790378008920033:=Nat
def tw2359575749495124433:=Nat
def tw4727277356847870972:=Nat
def tw219436419561990573:=Nat
def tw14070430028738074708:=Nat
def tw11343629365781702383:=Nat
def tw10640711289805051719:=Nat
def tw6494885690245798929:=Nat
def tw14299505486858884521:=Nat
def tw1259051616144823211:=Nat
def tw12348196812639732756:=Nat
def tw2082746338051516876:=Nat
def tw9539143121930234333:=Nat
def tw7086282141492264266:=Nat
def tw8663204371185250443:=Nat
def tw11134686427630688736:=Nat
def tw4228982198513757603:=Nat
def tw2191907536986581826:=Nat
def tw7609904177105180530:=Nat
def tw10395401222566391714:=Nat
def tw8265587195145159310:=Nat
end PySem.W.Fast
open PySem PySem.W PyProof.Rows
theorem d3_{a b c:Type}{x:a}{y:b}{z:c}{R:Prop}(r:R):(x=x/\y=y/\z=z)/\R:=⟨⟨rfl,rfl,rfl⟩,r⟩
set_option maxRecDepth 100000 in
set_option maxHeartbeats 0 in
theorem PySem.Challenge.cw_celltexts_s09_weigh_holds : PySem.Challenge.rw_celltexts_s09_weigh.Holds := by
 w_on;k_headS;(case hw=>exact ⟨[.list []],by decide +kernel,by decide +kernel⟩)
 k_fillS
 refine Prg.j3f rfl (λw h Y=>PySem.W.kIn_of Y) ?F
 case F =>
  intro w mg fa h Y KX G hmg;refine' Prg.j38 (D:=⟨31,350,142,77⟩) hmg ⟨?kDigit,?kWordB,?kPass,?kBytes,?kNum,?kWord,?kSpell,?kQuoted,?kSign,?kTok,?kToks,?kRToks,?kLong,?c_LINE_FEED,?c_BLANK,?c_LAST_ALLOWED,?c_QUOTE,?c_HASH,?c_ZERO,?c_NINE,?c_UNDERSCORE,?c_BACKSLASH,?c_LONGEST_WORD,?c_LONGEST_NUMBER,?c_LOWER_A,?c_FORBIDDEN_BYTE,?c_WRONG_TOKEN,?c_LONGEST_TEXT,?c_TOO_LONG,?c_LL,?n_len,?n_tuple,?n_enumerate,?tRes,?dEsc,?dOne,?dTwo,?oFault,?oToken,?kExpr,?kJoined,?kSigned,?kReached,?kReach,?kListed,?kSimple,?kBrack,?kRecord,?kFn,?kBuilt,?kBlock,?kStmts,?kStmt,?kBind,?kShow,?kIf,?kWhile,?kFor,?kSlider,?kChoice,?kGreat,?kJoins,?kWhole,?kLeaves,?kProg,?kGood,?kBr,?kDepth,?kEnd,?mLook,?mBehind,?mHere,?mMove,?mTake,?mLast,?c_DEEP_BRACKET,?c_NO_PROGRAM,?c_DEEP_PROGRAM,?c_DEEPEST_BRACKET,?c_DEEPEST_PROGRAM,?c_OR_LINE,?c_NOT_LINE,?c_COMPARED_LINE,?c_SIGNED_LINE,?n_max,?tShow,?tOpen,?tClose,?dBuilt,?oTree,?oReader,?kSpellS,?kJoin,?kWNumber,?kWQuoted,?kStrength,?kWSign,?kWProgram,?kWListed,?kWBlock,?kWRecord,?kWFunction,?kWReach,?kWChosen,?kWBetween,?kWSimple,?kWBare,?kWExpr,?kWBlocks,?kWSlider,?kWChoice,?kWStatement,?c_ANY,?c_CHOSEN,?c_DENIED,?c_REACHED,?c_PERCENT,?c_GREATEST_STRENGTH,?n_list,?n_zip,?n_ord,?n_str,?dSides2,?dOth,?dEscs,?kCO,?kCT,?kCall,?c_NOT_GOOD⟩
  case kDigit | kWordB | kBytes | kSpell | kToks | kRToks | kLong | kExpr | kSigned | kReached | kSimple | kBrack | kRecord | kFn | kBuilt | kBlock | kStmt | kBind | kShow | kIf | kWhile | kFor | kSlider | kChoice | kGreat | kWhole | kProg | kGood | kBr | kDepth | kEnd | kSpellS | kWNumber | kWQuoted | kStrength | kWSign | kWProgram | kWListed | kWBlock | kWRecord | kWFunction | kWReach | kWChosen | kWBetween | kWSimple | kWBare | kWBlocks | kWSlider | kWChoice | kWStatement | kCO | kCT | kCall=>refine' Prg.jot KX G (λ_ _ _ _ _ _ us hl=>Prg.jh1 hl λ_=>rfl) ?a ?l ?c ?k;(case a=>k_is);(case l=>k_is);(case c=>k_is);(case k=>k_is)
  case kPass | kNum | kWord | kQuoted | kSign | kTok | kJoined | kReach | kListed | kStmts | kJoins | kLeaves | kJoin | kWExpr=>refine' Prg.jot KX G (λ_ _ _ _ _ _ us hl=>Prg.j2t hl λ_ _=>rfl) ?a ?l ?c ?k;(case a=>k_is);(case l=>k_is);(case c=>k_is);(case k=>k_is)
  case c_LINE_FEED | c_BLANK | c_LAST_ALLOWED | c_QUOTE | c_HASH | c_ZERO | c_NINE | c_UNDERSCORE | c_BACKSLASH | c_LONGEST_WORD | c_LONGEST_NUMBER | c_LOWER_A | c_FORBIDDEN_BYTE | c_WRONG_TOKEN | c_LONGEST_TEXT | c_TOO_LONG | c_DEEP_BRACKET | c_NO_PROGRAM | c_DEEP_PROGRAM | c_DEEPEST_BRACKET | c_DEEPEST_PROGRAM | c_OR_LINE | c_NOT_LINE | c_COMPARED_LINE | c_SIGNED_LINE | c_ANY | c_CHOSEN | c_DENIED | c_REACHED | c_PERCENT | c_GREATEST_STRENGTH | c_NOT_GOOD=>refine' Prg.j3_ KX G ?a;(case a=>k_is)
  case c_LL=>refine' Prg.j39 KX G ?a;(case a=>k_is)
  case n_len | n_tuple | n_enumerate | n_max | n_list | n_zip | n_ord | n_str=>refine' PySem.W.mg_none_of KX G ?a;(case a=>k_is)
  case tRes | tShow | tOpen | tClose=>refine' Prg.j0r KX G ?e ?l ?hv ?hs;(case e=>k_is);(case l=>k_is);(case hv=>decide +kernel);(case hs=>decide +kernel)
  case dEsc=>refine' Prg.jy6 KX G ?e ?l ?ha ?hv;(case e=>k_is);(case l=>k_is);(case ha=>rfl);(case hv=>exact (d3_ (d3_ (d3_ trivial))))
  case dOne=>refine' Prg.jy6 KX G ?e ?l ?ha ?hv;(case e=>k_is);(case l=>k_is);(case ha=>rfl);(case hv=>exact (d3_ (d3_ (d3_ (d3_ (d3_ (d3_ (d3_ (d3_ (d3_ (d3_ (d3_ (d3_ (d3_ (d3_ (d3_ (d3_ (d3_ (d3_ (d3_ trivial))))))))))))))))))))
  case dTwo=>refine' Prg.two_mk KX G ?e ?ha ?l ?l1 ?l2 ?l3 ?l4 ?l5;(case e=>k_is);(case l=>k_is);(case ha=>rfl);(case l1=>k_is);(case l2=>k_is);(case l3=>k_is);(case l4=>k_is);(case l5=>k_is)
  case oFault=>refine' Prg.jx9 (C:=31) (f:=28) KX G ?a ?kc ?x ?l ?c ?k;(case a=>k_is);(case kc=>k_is);(case l=>k_is);(case c=>k_is);(case k=>k_is);(case x=>refine' Prg.jzd ?l ?l2 ?zq ?ty;(case l=>k_is);(case l2=>k_is);(case zq=>rfl);(case ty=>k_is))
  case oToken=>refine' Prg.jwk (C:=350) KX G ?a ?cl ?n1 ?n2 ?n3 ?n4 ?mk ?i ?fn ?kc ?l ?c ?k;(case a=>k_is);(case n1=>k_is);(case n2=>k_is);(case n3=>k_is);(case n4=>k_is);(case mk=>k_is);(case i=>k_is);(case fn=>k_is);(case kc=>k_is);(case l=>k_is);(case c=>k_is);(case k=>k_is);(case cl=>refine' Prg.jo6 (C:=350) ?pg ?hd ?po ?sa;(case pg=>k_is);(case hd=>k_is);(case po=>k_is);(case sa=>k_is))
  case mLook | mBehind | mHere | mMove | mLast=>refine' Prg.jmq (C:=142) (λ_ _ _ _ _ _ us hl=>Prg.jh1 hl λ_=>rfl) ?a ?i ?l ?c ?k;(case a=>k_is);(case i=>k_is);(case l=>k_is);(case c=>k_is);(case k=>k_is)
  case mTake=>refine' Prg.jmq (C:=142) (λ_ _ _ _ _ _ us hl=>Prg.j2t hl λ_ _=>rfl) ?a ?i ?l ?c ?k;(case a=>k_is);(case i=>k_is);(case l=>k_is);(case c=>k_is);(case k=>k_is)
  case dBuilt=>refine' Prg.jye KX G ?e ?l ?ha ?hv;(case e=>k_is);(case l=>k_is);(case ha=>rfl);(case hv=>exact (d3_ (d3_ (d3_ (d3_ (d3_ (d3_ (d3_ trivial))))))))
  case oTree=>refine' Prg.jzf (C:=77) KX G ?a ?cl ?n1 ?n2 ?n3 ?n4 ?n5 ?n6 ?n7 ?mk ?i ?fn ?kc ?l ?c ?k;(case a=>k_is);(case n1=>k_is);(case n2=>k_is);(case n3=>k_is);(case n4=>k_is);(case n5=>k_is);(case n6=>k_is);(case n7=>k_is);(case mk=>k_is);(case i=>k_is);(case fn=>k_is);(case kc=>k_is);(case l=>k_is);(case c=>k_is);(case k=>k_is);(case cl=>refine' Prg.jo6 (C:=77) ?pg ?hd ?po ?sa;(case pg=>k_is);(case hd=>k_is);(case po=>k_is);(case sa=>k_is))
  case oReader=>refine' Prg.jul (C:=142) KX G ?a ?cl ?n1 ?n2 ?mk ?i ?fn ?kc ?l ?c ?k;(case a=>k_is);(case n1=>k_is);(case n2=>k_is);(case mk=>k_is);(case i=>k_is);(case fn=>k_is);(case kc=>k_is);(case l=>k_is);(case c=>k_is);(case k=>k_is);(case cl=>refine' Prg.jo6 (C:=142) ?pg ?hd ?po ?sa;(case pg=>k_is);(case hd=>k_is);(case po=>k_is);(case sa=>k_is))
  case dSides2=>refine' Prg.j0w KX G [("or",(1,1,2),36),("and",(2,2,3),37),("==",(4,5,5),38),("!=",(4,5,5),39),("<",(4,5,5),40),("<=",(4,5,5),41),(">",(4,5,5),42),(">=",(4,5,5),43),("++",(5,5,6),44),("+",(6,6,7),45),("-",(6,6,7),46),("*",(7,7,8),47),("/",(7,7,8),48),("percent",(7,7,8),49)] rfl ?e ?l ?ha ?hv ?hr;(case e=>k_is);(case l=>k_is);(case ha=>rfl);(case hv=>exact (d3_ (d3_ (d3_ (d3_ (d3_ (d3_ (d3_ (d3_ (d3_ (d3_ (d3_ (d3_ (d3_ (d3_ trivial)))))))))))))));(case hr=>refine' Prg.jmd (And.intro ?r0 (And.intro ?r1 (And.intro ?r2 (And.intro ?r3 (And.intro ?r4 (And.intro ?r5 (And.intro ?r6 (And.intro ?r7 (And.intro ?r8 (And.intro ?r9 (And.intro ?r10 (And.intro ?r11 (And.intro ?r12 (And.intro ?r13 trivial))))))))))))));(case r0=>refine' Prg.vh (vs:=[.int 1,.int 1,.int 2]) ?l ?hv ?hs;(case l=>k_is);(case hv=>decide +kernel);(case hs=>decide +kernel));(case r1=>refine' Prg.vh (vs:=[.int 2,.int 2,.int 3]) ?l ?hv ?hs;(case l=>k_is);(case hv=>decide +kernel);(case hs=>decide +kernel));(case r2=>refine' Prg.vh (vs:=[.int 4,.int 5,.int 5]) ?l ?hv ?hs;(case l=>k_is);(case hv=>decide +kernel);(case hs=>decide +kernel));(case r3=>refine' Prg.vh (vs:=[.int 4,.int 5,.int 5]) ?l ?hv ?hs;(case l=>k_is);(case hv=>decide +kernel);(case hs=>decide +kernel));(case r4=>refine' Prg.vh (vs:=[.int 4,.int 5,.int 5]) ?l ?hv ?hs;(case l=>k_is);(case hv=>decide +kernel);(case hs=>decide +kernel));(case r5=>refine' Prg.vh (vs:=[.int 4,.int 5,.int 5]) ?l ?hv ?hs;(case l=>k_is);(case hv=>decide +kernel);(case hs=>decide +kernel));(case r6=>refine' Prg.vh (vs:=[.int 4,.int 5,.int 5]) ?l ?hv ?hs;(case l=>k_is);(case hv=>decide +kernel);(case hs=>decide +kernel));(case r7=>refine' Prg.vh (vs:=[.int 4,.int 5,.int 5]) ?l ?hv ?hs;(case l=>k_is);(case hv=>decide +kernel);(case hs=>decide +kernel));(case r8=>refine' Prg.vh (vs:=[.int 5,.int 5,.int 6]) ?l ?hv ?hs;(case l=>k_is);(case hv=>decide +kernel);(case hs=>decide +kernel));(case r9=>refine' Prg.vh (vs:=[.int 6,.int 6,.int 7]) ?l ?hv ?hs;(case l=>k_is);(case hv=>decide +kernel);(case hs=>decide +kernel));(case r10=>refine' Prg.vh (vs:=[.int 6,.int 6,.int 7]) ?l ?hv ?hs;(case l=>k_is);(case hv=>decide +kernel);(case hs=>decide +kernel));(case r11=>refine' Prg.vh (vs:=[.int 7,.int 7,.int 8]) ?l ?hv ?hs;(case l=>k_is);(case hv=>decide +kernel);(case hs=>decide +kernel));(case r12=>refine' Prg.vh (vs:=[.int 7,.int 7,.int 8]) ?l ?hv ?hs;(case l=>k_is);(case hv=>decide +kernel);(case hs=>decide +kernel));(case r13=>refine' Prg.vh (vs:=[.int 7,.int 7,.int 8]) ?l ?hv ?hs;(case l=>k_is);(case hv=>decide +kernel);(case hs=>decide +kernel)))
  case dOth=>refine' Prg.j2f KX G ?e ?l ?ha ?hv;(case e=>k_is);(case l=>k_is);(case ha=>rfl);(case hv=>exact (d3_ (d3_ (d3_ (d3_ (d3_ (d3_ trivial)))))))
  case dEscs=>refine' Prg.j21 (t1:=480) (t2:=481) (t3:=482) KX G ?e ?l ?ha ?hv ?h1 ?h2 ?h3;(case e=>k_is);(case l=>k_is);(case ha=>rfl);(case hv=>exact (d3_ (d3_ (d3_ trivial))));(case h1=>refine' Prg.vh (vs:=[.int 92,.int 92]) ?l ?hv ?hs;(case l=>k_is);(case hv=>decide +kernel);(case hs=>decide +kernel));(case h2=>refine' Prg.vh (vs:=[.int 92,.int 34]) ?l ?hv ?hs;(case l=>k_is);(case hv=>decide +kernel);(case hs=>decide +kernel));(case h3=>refine' Prg.vh (vs:=[.int 92,.int 110]) ?l ?hv ?hs;(case l=>k_is);(case hv=>decide +kernel);(case hs=>decide +kernel))
