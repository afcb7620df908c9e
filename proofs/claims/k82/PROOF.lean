import PyProof.Rows.All
import Wide.All
import OpenK.AllK
import Wide.FinOn
import Lean
import PyProof.EqAt
import PyProof.EqKinds
import PyProof.TupleCall
import PySem.Challenge.RW_wallspace_k82_whole_what_a_hall_tells
set_option Elab.async false
set_option linter.all false
set_option maxRecDepth 100000
section
open PySem PySem.Spec PyProof.Rows
abbrev q0a:=@List.length_map
abbrev q0b:=@List.getD_eq_getElem?_getD
abbrev q0c:=@List.getElem?_eq_getElem
abbrev q0d:=@Heap.get?_push_of_some
abbrev q0e:=@List.size_toArray
abbrev q0f:=@List.mem_cons_of_mem
abbrev q0g:=@List.mem_map
abbrev q0h:=@List.getElem?_map
abbrev q0i:=@PySem.W.mg_of
abbrev q0j:=@Nat.le_refl
abbrev q0k:=@List.mem_cons_self
abbrev q0l:=@Decidable.byContradiction
abbrev q0m:=@List.mem_singleton
abbrev q0n:=@List.length_append
abbrev q0o:=@List.length_take
abbrev q0p:=@Nat.le_trans
abbrev q0q:=@Heap.lt_size
abbrev q0r:=@List.mem_cons
abbrev q0s:=@Heap.get?_push_size
abbrev q0t:=@List.getElem?_eq_some_iff
abbrev q0u:=@List.map_cons
abbrev q0v:=@Option.map_eq_some_iff
abbrev q0w:=@Nat.ne_of_lt
abbrev q0x:=@List.map_append
abbrev q0y:=@List.dropLast_concat_getLast
abbrev q0z:=@Bool.false_ne_true
abbrev q0A:=@List.getElem_mem
abbrev q0B:=@List.mem_append_left
abbrev q0C:=@List.map_map
abbrev q0D:=@List.getElem?_append_right
abbrev q0E:=@List.mem_of_getElem?
abbrev q0F:=@List.length_cons
abbrev q0G:=@List.mem_map_of_mem
abbrev q0H:=@List.mem_append
abbrev q0I:=@List.mem_iff_getElem
abbrev q0J:=@Int.toNat_natCast
abbrev q0K:=@List.getElem?_zip_eq_some
abbrev q0L:=@List.getElem?_append_left
abbrev q0M:=@Int.mul_zero
abbrev q0N:=@Nat.lt_of_lt_of_le
abbrev q0O:=@List.mem_append_right
abbrev q0P:=@PySem.W.mg_none_of
abbrev q0Q:=@List.length_zip
abbrev q0R:=@List.take_add_one
abbrev q0S:=@Nat.zero_le
abbrev q0T:=@List.take_length
abbrev q0U:=@Int.mul_nonneg
abbrev q0V:=@List.length_eq_zero_iff
abbrev q0W:=@List.filter_append
abbrev q0X:=@Int.mul_ne_zero
abbrev q0Y:=@List.length_singleton
abbrev q0Z:=@List.replicate_succ
abbrev q1a:=@List.length_dropLast
abbrev q1b:=@Int.mul_eq_zero
abbrev q1c:=@List.any_eq_true
abbrev q1d:=@Nat.lt_succ_of_lt
abbrev q1e:=@List.pairwise_map
abbrev q1f:=@List.filter_cons_of_pos
abbrev q1g:=@List.filter_cons_of_neg
abbrev q1h:=@Int.le_of_lt
abbrev q1i:=@PySem.W.kia_one
abbrev q1j:=@Int.gcd_dvd_left
abbrev q1k:=@Int.add_zero
abbrev q1l:=@Bool.and_eq_true
abbrev q1m:=@Heap.get?_update_other
abbrev q1n:=@Nat.sub_self
abbrev q1o:=@List.of_mem_zip
abbrev q1p:=@List.length_replicate
abbrev q1q:=@List.length_filter_le
abbrev q1r:=@Bool.eq_iff_iff
abbrev q1s:=@List.getElem?_take_of_lt
abbrev q1t:=@List.mem_of_mem_take
abbrev q1u:=@Heap.size_push
abbrev q1v:=@Nat.le_succ
abbrev q1w:=@List.map_congr_left
abbrev q1x:=@List.length_zipWith
abbrev q1y:=@Int.mul_pos
abbrev q1z:=@Array.length_toList
abbrev q1A:=@List.take_append_drop
abbrev q1B:=@List.pairwise_cons
abbrev q1C:=@List.getElem?_eq_none
abbrev q1D:=@Int.mul_neg_of_pos_of_neg
abbrev q1E:=@Int.eq_of_mul_eq_mul_left
abbrev q1F:=@List.dropLast_concat
abbrev q1G:=@List.foldl_cons
abbrev q1H:=@List.flatten_cons
abbrev q1I:=@Int.gcd_dvd_right
abbrev q1J:=@Int.mul_comm
abbrev q1K:=@List.length_drop
end
namespace L2
open PySem PySem.Spec PyProof.Rows
abbrev Key:=Sum Int Str
def z9S:Key→Value→Bool
 | .inl k,v=>Value.isInt k v
 | .inr x,v=>Value.isStrOf x v
def keyH (w:World):Key→Int
 | .inl k=>hashInt k
 | .inr x=>hashStr w x
theorem z1a:∀{k:Key}{v:Value},z9S k v=true→(∃i t,k=Sum.inl i∧v=Value.int i t)∨(∃x t,k=Sum.inr x∧v=Value.str x t)
 | .inl i,v,h=>by
   obtain⟨t,e⟩:=Value.isInt_shape (k:=i) (v:=v) h
   exact .inl ⟨i,t,rfl,e⟩
 | .inr x,v,h=>by
   obtain⟨t,e⟩:=Value.isStrOf_shape (x:=x) (v:=v) h
   exact .inr ⟨x,t,rfl,e⟩
theorem y1N (i:Int) (t:Tok):z9S (.inl i) (.int i t)=true:=by simp[z9S,Value.isInt]
theorem y1M (x:Str) (t:Tok):z9S (.inr x) (.str x t)=true:=by simp[z9S,Value.isStrOf]
theorem y6J (a b:Int):decide ((Sum.inl a:Key)=Sum.inl b)=(a==b):=by
 by_cases e:a=b
 ·subst e;simp
 ·have h:¬(Sum.inl a:Key)=Sum.inl b:=fun q=>e (Sum.inl.inj q)
  rw[decide_eq_false h]
  exact (beq_eq_false_iff_ne.mpr e).symm
theorem y6G (a b:Str):decide ((Sum.inr a:Key)=Sum.inr b)=decide (a=b):=by
 by_cases e:a=b
 ·subst e;simp
 ·have h:¬(Sum.inr a:Key)=Sum.inr b:=fun q=>e (Sum.inr.inj q)
  rw[decide_eq_false h,decide_eq_false e]
theorem y6I (a:Int) (b:Str):decide ((Sum.inl a:Key)=Sum.inr b)=false:=decide_eq_false (fun q=>nomatch q)
theorem y6H (a:Str) (b:Int):decide ((Sum.inr a:Key)=Sum.inl b)=false:=decide_eq_false (fun q=>nomatch q)
def z1p (prog:Program) (w:World):PySem.KeyKind prog w Key where
 is:=z9S
 hash:=keyH w
 inj:=fun v a b ha hb=>by
    rcases z1a ha with⟨i,t,rfl,rfl⟩|⟨x,t,rfl,rfl⟩
    ·rcases z1a hb with⟨j,u,rfl,e⟩|⟨y,u,rfl,e⟩
     ·injection e with e1 _;rw[e1]
     ·exact nomatch e
    ·rcases z1a hb with⟨j,u,rfl,e⟩|⟨y,u,rfl,e⟩
     ·exact nomatch e
     ·injection e with e1 _;rw[e1]
 byValue:=fun k v h=>by
    rcases z1a h with⟨i,t,rfl,rfl⟩|⟨x,t,rfl,rfl⟩<;>rfl
 pyHash:=fun hv h=>by
    rcases z1a hv with⟨i,t,rfl,rfl⟩|⟨x,t,rfl,rfl⟩
    ·exact wpAny_pyHash_int h
    ·exact wpAny_pyHash_str h
 eqBool:=fun hu hv h=>by
    rcases z1a hu with⟨i,t,rfl,rfl⟩|⟨x,t,rfl,rfl⟩
    ·rcases z1a hv with⟨j,u,rfl,rfl⟩|⟨y,u,rfl,rfl⟩
     ·rw[y6J] at h;exact wpAny_eqBool_int h
     ·rw[y6I] at h;exact SeqAt.EqAt.int_str i t y u _ _ _ _ h
    ·rcases z1a hv with⟨j,u,rfl,rfl⟩|⟨y,u,rfl,rfl⟩
     ·rw[y6H] at h;exact SeqAt.EqAt.str_int x t j u _ _ _ _ h
     ·rw[y6G] at h;exact wpAny_eqBool_str h
 «strs»:=fun k x t v h=>by
    rcases z1a h with⟨i,u,rfl,e⟩|⟨y,u,rfl,e⟩
    ·exact nomatch e
    ·injection e with e1 _
     subst e1
     cases v<;>rfl
theorem z7Z (prog:Program) (w:World) (i:Int) (t:Tok):(z1p prog w).is (.inl i) (.int i t)=true:=y1N i t
theorem z7Y (prog:Program) (w:World) (x:Str) (t:Tok):(z1p prog w).is (.inr x) (.str x t)=true:=y1M x t
end L2
namespace L2
open PySem PySem.Spec PyProof.Rows
inductive V where
 |non|bl (b:Bool)|int (i:Int)|str (x:Str)|byt (b:Array UInt8)|flt (b:UInt64)|ref (a:Addr)|ty (n:String)
 deriving DecidableEq
def RelV:V→Value→Prop
 | .non,u=>u=Value.none
 | .bl b,u=>u=Value.bool b
 | .int i,u=>∃t,u=Value.int i t
 | .str x,u=>∃t,u=Value.str x t
 | .byt b,u=>∃t,u=Value.bytes b t
 | .flt b,u=>∃t,u=Value.float b t
 | .ref a,u=>u=Value.ref a
 | .ty n,u=>u=Value.type n
abbrev Vals:List V→List Value→Prop:=Paired RelV
theorem Vals.length {xs:List V}{us:List Value} (r:Vals xs us):xs.length=us.length:=Paired.length r
theorem Vals.get:∀{xs:List V}{us:List Value}{i:Nat}{x:V},Vals xs us→xs[i]? =some x→∃u,us[i]? =some u∧RelV x u
 |_,_,_,_,.nil,e=>by simp at e
 |_,_,0,_,.cons r _,e=>by simp at e;subst e;exact⟨_,rfl,r⟩
 |_,_,i+1,x,.cons _ t,e=>by
  obtain⟨u,h1,h2⟩:=Vals.get (i:=i) (x:=x) t (by simpa using e)
  exact⟨u,by simpa using h1,h2⟩
theorem Vals.set {x:V}{u:Value} (r:RelV x u):∀{xs:List V}{us:List Value} (i:Nat),Vals xs us→Vals (xs.set i x) (us.set i u)
 |_,_,_,.nil => .nil
 |_,_,0,.cons _ t=> .cons r t
 |_,_,i+1,.cons q t=> .cons q (Vals.set r i t)
theorem Vals.append:∀{xs ys:List V}{us ws:List Value},Vals xs us→Vals ys ws→Vals (xs++ys) (us++ws)
 |_,_,_,_,.nil,s=>s
 |_,_,_,_,.cons r t,s=> .cons r (Vals.append t s)
theorem Vals.take:∀{xs:List V}{us:List Value} (n:Nat),Vals xs us→Vals (xs.take n) (us.take n)
 |_,_,0,_=> .nil
 |_,_,_+1,.nil => .nil
 |_,_,n+1,.cons r t=> .cons r (Vals.take n t)
theorem Vals.drop:∀{xs:List V}{us:List Value} (n:Nat),Vals xs us→Vals (xs.drop n) (us.drop n)
 |_,_,0,r=>r
 |_,_,_+1,.nil => .nil
 |_,_,n+1,.cons _ t=>Vals.drop n t
def RelO:Option V→Option Value→Prop
 |some v,some u=>RelV v u
 |none,none=>True
 |_,_=>False
def KV {κ:Type}:List (κ×V)→List (κ×Value)→Prop:=Paired fun (p:κ×V) (q:κ×Value)=>p.1=q.1∧RelV p.2 q.2
def kV:Key→V
 | .inl i=> .int i
 | .inr x=> .str x
inductive HO where
 /-- a list -/
 |lst (xs:List V)
 /-- a tuple (never changes) -/
 |tup (xs:List V)
 /-- a dict whose keys are ints and texts;one whose keys are tuples of ints and texts (the empty one is both) -/
 |dK (kvs:List (Key×V))|dT (kvs:List (List Key×V))
 /-- a set of ints:its members,its size -/
 |set (S:Int→Bool) (n:Nat)
 /-- an instance of the class at C,its dict at dx,its attributes -/
 |ins (C dx:Addr) (fs:List (Str×V))
 /-- the dict of the instance at x -/
 |own (x:Addr)
 /-- the dict of an exception -/
 |xd (fs:List (Str×V))
 /-- a bound method,f of x -/
 |met (f x:Addr)
 /-- a range object lo,lo+1,.. below hi -/
 |rng (lo hi:Int)
 /-- a thing that is known to the object (the script;a dict while a loop walks it):read,never written while it is so -/
 |frz (o:Obj) (u:HO)
 /-- a code object's table -/
 |tbl (ps:Array Value)
 /-- any other thing,by what is true of its one object (a def of one's own:SetO a S n:=HO.ext fun h=> ..) -/
 |ext (φ:Heap→Prop)
abbrev Hp:=Addr→Option HO
def upd (H:Hp) (a:Addr) (o:HO):Hp:=fun b=>if b=a then some o else H b
theorem z0d {H:Hp}{a:Addr}{o:HO}:upd H a o a=some o:=by unfold upd;rw[if_pos rfl]
theorem z0l {H:Hp}{a b:Addr}{o:HO} (h:b≠a):upd H a o b=H b:=by unfold upd;rw[if_neg h]
theorem y0o {H:Hp}{a:Addr}{o u:HO}:upd (upd H a o) a u=upd H a u:=by
 funext b;unfold upd;split<;>rfl
theorem ne_of {H:Hp}{a b:Addr}{o u:HO} (h:H a=some o) (h':H b=some u) (d:o≠u):a≠b:=by
 intro e;subst e;rw[h] at h';exact d (Option.some.inj h')
theorem z0h {H:Hp}{a b:Addr}{o:HO} (h:H a=some o) (h':H b=none):a≠b:=by
 intro e;subst e;rw[h] at h';cases h'
section
variable (P:Program) (w:World)
def ObjOk (H:Hp) (h:Heap) (a:Addr):HO→Prop
 | .lst xs=>xs.length≤sizeLine∧∃(its:List Value) (n:Nat),Vals xs its∧h.get? a=some {cls:= .type "list",data:= .seq its.toArray n}
 | .tup xs=>xs.length≤sizeLine∧∃its:List Value,Vals xs its∧IsTup h a its.toArray
 | .dK kvs=>kvs.length≤sizeLine∧(a==sysModules)=false∧∃vs,KV kvs vs∧h.DictOf (z1p P w) a vs
 | .dT kvs=>kvs.length≤sizeLine∧(a==sysModules)=false∧∃xs:List (List Key×Addr×Value),
  Paired (fun (p:List Key×V) (q:List Key×Addr×Value)=>p.1=q.1∧H q.2.1=some (.tup (p.1.map kV))∧RelV p.2 q.2.2) kvs xs∧
  ∃o es ep,h.get? a=some o∧o.ExactDict∧o.data= .dict es ep∧es.toList=xs.map (entryOfKey (tupleKind (z1p P w)))∧(xs.map (·.1)).Nodup
 | .set S n=>h.SetOf (intKind P w) a S n
 | .ins C dx fs=>H dx=some (.own a)∧fs.length≤1000∧dx≠a∧h.get? a=some (PySem.W.instObj C dx)∧
  ∃mA,h.Ns1 dx mA∧(∀f,RelO (fs.lookup f) (mA f))∧PySem.Within mA (fs.map (·.1))
 | .own _=>∃o,h.get? a=some o
 | .xd fs=>∃mA,h.Ns1 a mA∧∀f,RelO (fs.lookup f) (mA f)
 | .rng lo hi=>∃t u v,h.get? a=some {cls:= .type "range",data:= .fields #[.int lo t,.int hi u,.int 1 v]}
 | .frz o u=>h.get? a=some o∧ObjOk H h a u
 | .tbl ps=>h.get? a=some {cls:= .none,data:= .fields ps}
 | .met f x=>h.get? a=some (PySem.W.methodObj (.ref f) (.ref x))
 | .ext φ=>φ h∧(∃o,h.get? a=some o)∧∀h1 h2:Heap,φ h1→(∀o,h1.get? a=some o→h2.get? a=some o)→φ h2
def HOk (H:Hp) (h:Heap):Prop:=∀a o,H a=some o→ObjOk P w H h a o
end
section
variable {P:Program}{w:World}{H H':Hp}{h h':Heap}{a:Addr}{o:HO}
theorem ObjOk.lt (x:ObjOk P w H h a o):a<h.objs.size:=by
 cases o with
 |lst xs=>obtain⟨_,_,_,_,e⟩:=x;exact Heap.lt_size e
 |tup xs=>obtain⟨_,_,_,p⟩:=x;exact p.lt
 |dK kvs=>obtain⟨_,_,_,_,o,_,_,e,_⟩:=x;exact Heap.lt_size e
 |dT kvs=>obtain⟨_,_,_,_,o,_,_,e,_⟩:=x;exact Heap.lt_size e
 |set S n=>obtain⟨o,_,_,_,e,_⟩:=x;exact Heap.lt_size e
 |ins C dx fs=>obtain⟨_,_,_,e,_⟩:=x;exact Heap.lt_size e
 |own y=>obtain⟨_,e⟩:=x;exact Heap.lt_size e
 |xd fs=>obtain⟨_,⟨_,_,_,e,_⟩,_⟩:=x;exact Heap.lt_size e
 |rng lo hi=>obtain⟨_,_,_,e⟩:=x;exact Heap.lt_size e
 |frz ob u=>obtain⟨e,_⟩:=x;exact Heap.lt_size e
 |tbl ps=>exact Heap.lt_size (show h.get? a=some _ from x)
 |met f y=>exact Heap.lt_size (show h.get? a=some _ from x)
 |ext φ=>obtain⟨_,⟨_,e⟩,_⟩:=x;exact Heap.lt_size e
theorem Paired.mapP {α β:Type}{F G:α→β→Prop}:∀{l₁:List α}{l₂:List β},Paired F l₁ l₂→(∀a b,F a b→G a b)→Paired G l₁ l₂
 |_,_,.nil,_=> .nil
 |_,_,.cons r t,f=> .cons (f _ _ r) (Paired.mapP t f)
theorem ObjOk.stay (x:ObjOk P w H h a o) (k:∀b u,(b=a∨H b=some (.own a))→h.get? b=some u→h'.get? b=some u)
 (ho:∀b,H b=some (.own a)→H' b=some (.own a)) (ht:∀b xs,H b=some (.tup xs)→H' b=some (.tup xs)):ObjOk P w H' h' a o:=by
 induction o with
 |lst xs=>obtain⟨z,its,n,r,e⟩:=x;exact⟨z,its,n,r,k _ _ (.inl rfl) e⟩
 |tup xs=>obtain⟨z,its,r,ob,e,c⟩:=x;exact⟨z,its,r,ob,k _ _ (.inl rfl) e,c⟩
 |dK kvs=>obtain⟨z,y,vs,r,ob,es,ep,e,c⟩:=x;exact⟨z,y,vs,r,ob,es,ep,k _ _ (.inl rfl) e,c⟩
 |dT kvs=>
  obtain⟨z,y,xs,r,ob,es,ep,e,c⟩:=x
  exact⟨z,y,xs,Paired.mapP r fun p q z=>⟨z.1,ht _ _ z.2.1,z.2.2⟩,ob,es,ep,k _ _ (.inl rfl) e,c⟩
 |set S n=>obtain⟨ob,es,ep,t,e,c⟩:=x;exact⟨ob,es,ep,t,k _ _ (.inl rfl) e,c⟩
 |ins C dx fs=>
  obtain⟨d,z,ne,e,mA,⟨od,es,ep,e2,c⟩,r⟩:=x
  exact⟨ho _ d,z,ne,k _ _ (.inl rfl) e,mA,⟨od,es,ep,k _ _ (.inr d) e2,c⟩,r⟩
 |own y=>obtain⟨ob,e⟩:=x;exact⟨ob,k _ _ (.inl rfl) e⟩
 |xd fs=>obtain⟨mA,⟨od,es,ep,e,c⟩,r⟩:=x;exact⟨mA,⟨od,es,ep,k _ _ (.inl rfl) e,c⟩,r⟩
 |rng lo hi=>obtain⟨t,u,v,e⟩:=x;exact⟨t,u,v,k _ _ (.inl rfl) e⟩
 |frz ob u ih=>obtain⟨e,q⟩:=x;exact⟨k _ _ (.inl rfl) e,ih q⟩
 |tbl ps=>
  have e:h.get? a=some {cls:= .none,data:= .fields ps}:=x
  show h'.get? a=some {cls:= .none,data:= .fields ps}
  exact k a _ (.inl rfl) e
 |met f y=>
  have e:h.get? a=some (PySem.W.methodObj (.ref f) (.ref y)):=x
  show h'.get? a=some (PySem.W.methodObj (.ref f) (.ref y))
  exact k a _ (.inl rfl) e
 |ext φ=>obtain⟨p,⟨o,e⟩,st⟩:=x;exact⟨st _ _ p fun o q=>k _ _ (.inl rfl) q,⟨o,k _ _ (.inl rfl) e⟩,st⟩
theorem HOk.lt (x:HOk P w H h) (e:H a=some o):a<h.objs.size:=(x a o e).lt
theorem HOk.fresh (x:HOk P w H h) (e:h.objs.size≤a):H a=none:=by
 cases q:H a with
 |none=>rfl
 |some u=>exact absurd (Nat.lt_of_lt_of_le (x.lt q) e) (Nat.lt_irrefl _)
theorem HOk.kept (x:HOk P w H h) (k:∀b u,h.get? b=some u→h'.get? b=some u):HOk P w H h':=fun a o e=>
 (x a o e).stay (fun b u _ q=>k b u q) (fun _ q=>q) fun _ _ q=>q
theorem HOk.laid (x:HOk P w H h) (k:∀b u,h.get? b=some u→h'.get? b=some u) (hp:h.objs.size≤a) (new:ObjOk P w (upd H a o) h' a o):HOk P w (upd H a o) h':=fun b u e=>by
 have hn:=x.fresh hp
 by_cases hb:b=a
 ·subst hb;rw[z0d] at e;cases e;exact new
 ·rw[z0l hb] at e
  exact (x b u e).stay (fun c v _ q=>k c v q) (fun c q=>by rw[z0l (z0h q hn)];exact q) fun c xs q=>by rw[z0l (z0h q hn)];exact q
end
def Rd (H:Hp) (a:Addr) (u:HO):Prop:=H a=some u∨∃o,H a=some (.frz o u)
theorem Rd.ok {P:Program}{w:World}{H:Hp}{h:Heap}{a:Addr}{u:HO} (r:Rd H a u) (x:HOk P w H h):ObjOk P w H h a u:=by
 rcases r with r|⟨o,r⟩
 ·exact x a u r
 ·obtain⟨_,q⟩:=x a _ r
  exact q
def Mut:Option HO→Prop
 |some (.lst _)=>True
 |some (.dK _)=>True
 |some (.dT _)=>True
 |some (.set _ _)=>True
 |some (.ins _ _ _)=>True
 |some (.ext _)=>True
 |_=>False
section
variable {P:Program}{w:World}{H:Hp}{h h':Heap}{x e:Addr}{o':HO}
theorem HOk.write (ok:HOk P w H h) (mu:Mut (H x)) (he:e=x∨H e=some (.own x)) (k:∀b u,b≠e→h.get? b=some u→h'.get? b=some u) (heo:∃u,h'.get? e=some u)
 (new:ObjOk P w (upd H x o') h' x o'):HOk P w (upd H x o') h':=fun b u q=>by
 have nown:∀c y,H c=some (.own y)→c≠x:=fun c y r z=>by subst z;rw[r] at mu;exact mu
 have ntup:∀c xs,H c=some (.tup xs)→c≠x:=fun c xs r z=>by subst z;rw[r] at mu;exact mu
 by_cases hb:b=x
 ·subst hb;rw[z0d] at q;cases q;exact new
 ·rw[z0l hb] at q
  by_cases hbe:b=e
  ·have q':H b=some (.own x):=by
     rcases he with z|z
     ·exact absurd (hbe.trans z) hb
     ·rw[hbe];exact z
   rw[q] at q';cases q'
   obtain⟨v,hv⟩:=heo
   exact⟨v,by rw[hbe];exact hv⟩
  ·refine (ok b u q).stay (fun c v hc r=>k c v ?_ r) (fun c r=>by rw[z0l (nown c b r)];exact r) fun c xs r=>by rw[z0l (ntup c xs r)];exact r
   rcases hc with rfl|hc
   ·exact hbe
   ·rintro rfl
    rcases he with z|z
    ·exact nown c b hc z
    ·rw[hc] at z;cases z;exact hb rfl
end
structure Un (fs ex:List Addr) (H H':Hp) (h h':Heap):Prop where
 keep:∀b o,h.get? b=some o→H b=none→b∉fs→b∉ex→h'.get? b=some o
 slot:∀b o,h.get? b=some o→H b=none→b∈fs→b∉ex→∃sl,h'.get? b=some {o with slots:=sl}
 free:∀b o,h.get? b=some o→H b=none→b∉ex→H' b=none
 there:∀b o,h.get? b=some o→b∉ex→∃o',h'.get? b=some o'
 tups:∀b xs,H b=some (.tup xs)→H' b=some (.tup xs)
 frzs:∀b o u,H b=some (.frz o u)→H' b=some (.frz o u)
 tbls:∀b ps,H b=some (.tbl ps)→∃more,H' b=some (.tbl (ps++more))
section
variable {fs fs' ex ex':List Addr}{H H1 H2:Hp}{h h1 h2 h':Heap}{a x e:Addr}{o:HO}
theorem Un.any (u:Un fs ex H H1 h h1) {b:Addr}{ob:Obj} (q:h.get? b=some ob) (n:H b=none) (hx:b∉ex):∃sl,h1.get? b=some {ob with slots:=sl}:=by
 by_cases hb:b∈fs
 ·exact u.slot b ob q n hb hx
 ·exact⟨ob.slots,u.keep b ob q n hb hx⟩
theorem Un.kept (k:∀b u,h.get? b=some u→h'.get? b=some u):Un fs ex H H h h':=
 ⟨fun b ob q _ _ _=>k b ob q,fun b ob q _ _ _=>⟨ob.slots,k b ob q⟩,fun _ _ _ n _=>n,fun b ob q _=>⟨ob,k b ob q⟩,fun _ _ q=>q,fun _ _ _ q=>q,fun _ ps q=>⟨#[],by rw[q];simp⟩⟩
theorem Un.refl:Un fs ex H H h h:=Un.kept fun _ _ q=>q
theorem Un.laid (k:∀b u,h.get? b=some u→h'.get? b=some u) (hp:h.objs.size≤a) (hn:H a=none):Un fs ex H (upd H a o) h h' where
 keep:=fun b u q _ _ _=>k b u q
 slot:=fun b u q _ _ _=>⟨u.slots,k b u q⟩
 free:=fun b u q n _=>by rw[z0l (q0w (q0N (q0q q) hp))];exact n
 there:=fun b u q _=>⟨u,k b u q⟩
 tups:=fun b xs q=>by rw[z0l (z0h q hn)];exact q
 frzs:=fun b u xs q=>by rw[z0l (z0h q hn)];exact q
 tbls:=fun b ps q=>⟨#[],by rw[z0l (z0h q hn),q];simp⟩
theorem Un.write (mu:Mut (H x)) (he:e=x∨H e=some (.own x)) (k:∀b u,b≠e→h.get? b=some u→h'.get? b=some u) (heo:∃u,h'.get? e=some u):Un fs ex H (upd H x o) h h':=by
 have hx:∀b,H b=none→b≠x:=fun b n z=>by subst z;rw[n] at mu;exact mu
 have hb:∀b,H b=none→b≠e:=fun b n z=>by
  subst z
  rcases he with r|r
  ·exact hx b n r
  ·rw[n] at r;cases r
 have hm:∀b u,H b=some u→¬Mut (some u)→b≠x:=fun b u q nm z=>by subst z;rw[q] at mu;exact nm mu
 refine⟨fun b u q n _ _=>k b u (hb b n) q,fun b u q n _ _=>⟨u.slots,k b u (hb b n) q⟩,fun b u q n _=>by rw[z0l (hx b n)];exact n,fun b u q _=>?_,
  fun b xs q=>by rw[z0l (hm b _ q fun z=>z)];exact q,fun b u xs q=>by rw[z0l (hm b _ q fun z=>z)];exact q,fun b ps q=>⟨#[],by rw[z0l (hm b _ q fun z=>z),q];simp⟩⟩
 by_cases hbe:b=e
 ·subst hbe;exact heo
 ·exact⟨u,k b u hbe q⟩
end
def trk (h:Heap) (H:Hp):List Addr:=(List.range h.objs.size).filter fun a=>(H a).isSome
def y3D (h:Heap) (H:Hp):Heap:=PySem.W.hideAll h (trk h H)
theorem y1W (h:Heap) (H:Hp):(y3D h H).objs.size =h.objs.size:=PySem.W.hideAll_size _ _
theorem y3C {h:Heap}{H:Hp}{b:Addr}{o:Obj} (e:h.get? b=some o) (n:H b=none):(y3D h H).get? b=some o:=
 PySem.W.hideAll_get _ e fun hm=>by
  have q:(H b).isSome =true:=(List.mem_filter.mp hm).2
  rw[n] at q;simp at q
theorem y5i {h:Heap}{H:Hp}{b:Addr}{o:Obj} (e:(y3D h H).get? b=some o):h.get? b=some o∧H b=none:=by
 have e':h.get? b=some o:=PySem.W.of_hideAll (trk h H) e
 refine⟨e',?_⟩
 cases q:H b with
 |none=>rfl
 |some x=>
  have hm:b∈trk h H:=List.mem_filter.mpr ⟨List.mem_range.mpr (q0q e'),by simp[q]⟩
  have z:(y3D h H).get? b=none:=PySem.W.hideAll_none (trk h H) hm
  rw[z] at e;cases e
end L2
namespace L2
open PySem PySem.Spec PyProof.Rows
structure Mod (K:PySem.W.Frag) (mg:Str→Option Value) (base:Heap):Prop where
 kin:K.In base
 glob:base.Ns mainGlobals mg
 blt:∃mb,base.Ns builtinsNs mb∧∀x:Str,x≠"__name__"→mb x=bootBuiltins x
 nolimit:base.NoLimit
structure Cx where
 prog:Program
 w:World
 K:PySem.W.Frag
 mg:Str→Option Value
 base:Heap
 A:Around
 N:List Str
 s₀:Shared
 H₀:Hp
 env:Env
 outer:List Env
 stack:List Env
 ex:List Addr
 fn:Str→Bool
 calm:Bool
 pn:List (Addr×Obj)
 xe:Value→Shared→Prop
def frs (l:List Env):List Addr:=l.filterMap (·.frame)
abbrev Cx.fs (X:Cx):List Addr:=frs X.outer
def Vis (sc:Scope) (x:Str):Prop:=sc.names.lookup x=some .local ∨sc.names.lookup x=some .cell ∨sc.names.lookup x=some .free
def Loc (sc:Scope) (x:Str):Prop:=sc.names.lookup x=some .local ∨sc.names.lookup x=some .cell
def Look (env:Env) (h:Heap) (m:Str→Option Value) (x:Str) (u:Value):Prop:=
 (env.kindOf x=some .local ∧m x=some u)∨((env.kindOf x=some .cell ∨env.kindOf x=some .free)∧∃c,env.cells.lookup x=some c∧h.IsCell c (some u))
structure Cx.Ok (X:Cx):Prop where
 mod:Mod X.K X.mg X.base
 kind:X.env.scope.kind= .function
 glob:X.env.globals=mainGlobals
 blt:X.env.builtins=builtinsNs
 above:X.s₀.heap.objs.size≤X.env.locals
 inj:∀x y c,X.env.cells.lookup x=some c→X.env.cells.lookup y=some c→x=y
 has:∀x,(X.env.kindOf x=some .cell ∨X.env.kindOf x=some .free)→∃c,X.env.cells.lookup x=some c
 cab:∀x c,X.fn x=true→X.env.cells.lookup x=some c→X.s₀.heap.objs.size≤c
 hd:X.calm=true→X.A.handled=none
 frames:X.A.frames=some X.stack
 stk:X.stack=X.outer∨(X.stack=X.env::X.outer∧X.env.frame=some X.env.locals)
 exf:∀b∈X.ex,b≠X.env.locals∧∀x c,X.env.cells.lookup x=some c→c≠b
 bs:∀b o,X.base.get? b=some o→X.s₀.heap.get? b=some o∧X.H₀ b=none
 bsz:X.base.objs.size≤X.s₀.heap.objs.size
 noex:∀b o,X.base.get? b=some o→b∉X.ex
 exfs:∀b∈X.ex,b∉X.fs
 funs:X.s₀.heap.FunFrames X.base X.outer
 frf:∀b∈X.fs,X.H₀ b=none
structure Inv (X:Cx) (pins:List (Addr×Obj)) (σ:List (Option V)) (H:Hp) (s:Shared):Prop where
 ok:X.Ok
 os:s.os=X.s₀.os
 bare:AllBare s.gens
 base:Un X.fs X.ex X.H₀ H X.s₀.heap s.heap
 loc:∃m,s.heap.Ns X.env.locals m∧∀(i:Nat) (x:Str) (v:V),X.N[i]? =some x→σ[i]? =some (some v)→Vis X.env.scope x→∃u,RelV v u∧Look X.env s.heap m x u
 cell:∀x c,X.env.cells.lookup x=some c→∃v,s.heap.IsCell c v
 free:H X.env.locals=none
 freeC:∀x c,X.env.cells.lookup x=some c→H c=none
 pin:∀p∈X.pn++pins,s.heap.get? p.1=some p.2∧H p.1=none∧p.1≠X.env.locals∧p.1∉X.fs∧∀v,p.2.data≠ .cell v
 hok:HOk X.prog X.w H s.heap
 len:σ.length=X.N.length
section
variable {X:Cx}{pins:List (Addr×Obj)}{σ:List (Option V)}{H H':Hp}{s:Shared}{h':Heap}
theorem Cx.Ok.nofr (ok:X.Ok) {b:Addr}{o:Obj} (e:X.base.get? b=some o):b∉X.fs:=fun hb=>by
 have:=(ok.funs.mem hb).1
 rw[e] at this;cases this
theorem Inv.bs (I:Inv X pins σ H s):∀b o,X.base.get? b=some o→s.heap.get? b=some o∧H b=none:=fun b o e=>
 ⟨I.base.keep b o (I.ok.bs b o e).1 (I.ok.bs b o e).2 (I.ok.nofr e) (I.ok.noex b o e),I.base.free b o (I.ok.bs b o e).1 (I.ok.bs b o e).2 (I.ok.noex b o e)⟩
theorem Inv.bk (I:Inv X pins σ H s):∀b o,X.base.get? b=some o→s.heap.get? b=some o:=fun b o e=>(I.bs b o e).1
theorem Inv.mod (I:Inv X pins σ H s):Mod X.K X.mg X.base:=I.ok.mod
theorem Inv.kIn (I:Inv X pins σ H s):X.K.In s.heap:=I.ok.mod.kin.keeps I.bk
theorem Inv.lt (I:Inv X pins σ H s):X.env.locals<s.heap.objs.size:=let ⟨_,hn,_⟩:=I.loc;hn.lt
theorem Inv.sz (I:Inv X pins σ H s):X.s₀.heap.objs.size≤s.heap.objs.size:=q0p I.ok.above (Nat.le_of_lt I.lt)
theorem Inv.nofs (I:Inv X pins σ H s) {a:Addr} (h:s.heap.objs.size≤a):a∉X.fs:=fun hb=>by
 obtain⟨_,o,ho,_⟩:=I.ok.funs.mem hb
 exact absurd (q0N (q0q ho) (q0p I.sz h)) (Nat.lt_irrefl _)
theorem Inv.cne (I:Inv X pins σ H s):∀x c,X.env.cells.lookup x=some c→c≠X.env.locals:=fun x c e z=>by
 obtain⟨v,o,ho,hd⟩:=I.cell x c e
 obtain⟨m,⟨o',es,ep,ho',hd',_⟩,_⟩:=I.loc
 rw[z,ho'] at ho;cases ho;rw[hd'] at hd;cases hd
theorem Inv.funs (I:Inv X pins σ H s):s.heap.FunFrames X.base X.outer:=by
 have all:∀(l:List Env),(∀b∈frs l,b∈X.fs)→X.s₀.heap.FunFrames X.base l→s.heap.FunFrames X.base l:=by
  intro l
  induction l with
  |nil=>intro _ _;trivial
  |cons env r ih=>
   intro hs hl
   obtain⟨hk,⟨L,o,hf,hn,ho,hd⟩,hr⟩:=hl
   have hL:L∈X.fs:=hs L (by unfold frs;rw[List.filterMap_cons,hf];exact List.mem_cons_self)
   obtain⟨sl,e⟩:=I.base.slot L o ho (I.ok.frf L hL) hL fun z=>I.ok.exfs L z hL
   exact⟨hk,⟨L,_,hf,hn,e,hd⟩,ih (fun b hb=>hs b (by unfold frs;rw[List.filterMap_cons,hf];exact List.mem_cons_of_mem _ hb)) hr⟩
 exact all X.outer (fun _ hb=>hb) I.ok.funs
theorem Inv.stack (I:Inv X pins σ H s):s.heap.FunFrames X.base X.stack:=by
 rcases I.ok.stk with e|⟨e,hf⟩
 ·rw[e];exact I.funs
 ·rw[e]
  obtain⟨m,hn,_⟩:=I.loc
  refine .cons (by rw[I.ok.kind];decide) hf hn ?_ I.funs
  exact Heap.get?_none_of_le (q0p I.ok.bsz I.ok.above)
theorem Inv.stkSub (I:Inv X pins σ H s):∀b∈frs X.stack,b∈X.env.locals::X.fs:=fun b hb=>by
 rcases I.ok.stk with e|⟨e,hf⟩
 ·rw[e] at hb;exact q0f _ hb
 ·rw[e] at hb
  unfold frs at hb
  rw[List.filterMap_cons,hf] at hb
  exact hb
theorem Inv.stkFree (I:Inv X pins σ H s):∀b∈frs X.stack,H b=none:=fun b hb=>by
 rcases q0r.mp (I.stkSub b hb) with e|hb
 ·rw[e];exact I.free
 ·obtain⟨_,o,ho,_⟩:=I.ok.funs.mem hb
  exact I.base.free b o ho (I.ok.frf b hb) fun z=>I.ok.exfs b z hb
theorem Inv.step {g':Array GenState}{t':Nat}{d':Drawn}{ch:List Addr} (I:Inv X pins σ H s)
 (hch:∀b∈ch,(b∈X.ex∨X.s₀.heap.objs.size≤b)∧b≠X.env.locals∧(∀x c,X.env.cells.lookup x=some c→c≠b)∧∀p∈X.pn++pins,p.1≠b)
 (keep:∀b o,b≠X.env.locals→b∉X.fs→b∉ch→s.heap.get? b=some o→H b=none→h'.get? b=some o)
 (slot:∀b o,b≠X.env.locals→b∈X.fs→b∉ch→s.heap.get? b=some o→H b=none→∃sl,h'.get? b=some {o with slots:=sl}) (free:∀b o,b∉ch→s.heap.get? b=some o→H b=none→H' b=none)
 (there:∀b o,b∉ch→s.heap.get? b=some o→∃o',h'.get? b=some o')
 (tups:∀b xs,H b=some (.tup xs)→H' b=some (.tup xs)) (frzs:∀b o u,H b=some (.frz o u)→H' b=some (.frz o u)) (tbls:∀b ps,H b=some (.tbl ps)→∃more,H' b=some (.tbl (ps++more)))
 (ns:∀m,s.heap.Ns X.env.locals m→h'.Ns X.env.locals m) (hok:HOk X.prog X.w H' h') (hg:AllBare g'):
 Inv X pins σ H' {s with heap:=h',gens:=g',drawn:=d',toks:=t'}:=by
 have neL:∀b o,X.s₀.heap.get? b=some o→b≠X.env.locals:=fun b o e=>q0w (q0N (q0q e) I.ok.above)
 have neC:∀b o,X.s₀.heap.get? b=some o→b∉X.ex→b∉ch:=fun b o e hx hb=>by
  rcases (hch b hb).1 with z|z
  ·exact hx z
  ·exact absurd (q0N (q0q e) z) (Nat.lt_irrefl _)
 have cellK:∀x c,X.env.cells.lookup x=some c→∀v,s.heap.IsCell c v→h'.IsCell c v:=fun x c e v ⟨o,ho,hd⟩=>by
  have nch:c∉ch:=fun z=>(hch c z).2.2.1 x c e rfl
  by_cases hc:c∈X.fs
  ·obtain⟨sl,q⟩:=slot c o (I.cne x c e) hc nch ho (I.freeC x c e)
   exact⟨_,q,hd⟩
  ·exact⟨o,keep c o (I.cne x c e) hc nch ho (I.freeC x c e),hd⟩
 refine⟨I.ok,I.os,hg,⟨fun b o e n hb hx=>?_,fun b o e n hb hx=>?_,fun b o e n hx=>?_,fun b o e hx=>?_,fun b xs e=>tups b xs (I.base.tups b xs e),fun b o xs e=>frzs b o xs (I.base.frzs b o xs e),fun b ps e=>?_⟩,?_,fun x c e=>?_,?_,fun x c e=>?_,fun p hp=>?_,hok,I.len⟩
 ·exact keep b o (neL b o e) hb (neC b o e hx) (I.base.keep b o e n hb hx) (I.base.free b o e n hx)
 ·obtain⟨sl,e1⟩:=I.base.slot b o e n hb hx
  obtain⟨sl',e2⟩:=slot b _ (neL b o e) hb (neC b o e hx) e1 (I.base.free b o e n hx)
  exact⟨sl',e2⟩
 ·obtain⟨o',e1⟩:=I.base.there b o e hx
  exact free b o' (neC b o e hx) e1 (I.base.free b o e n hx)
 ·obtain⟨o',e1⟩:=I.base.there b o e hx
  exact there b o' (neC b o e hx) e1
 ·obtain⟨m1,e1⟩:=I.base.tbls b ps e
  obtain⟨m2,e2⟩:=tbls b _ e1
  exact⟨m1++m2,by rw[e2,Array.append_assoc]⟩
 ·obtain⟨m,hn,hl⟩:=I.loc
  refine⟨m,ns m hn,fun i x v e1 e2 e3=>?_⟩
  obtain⟨u,r,l⟩:=hl i x v e1 e2 e3
  refine⟨u,r,?_⟩
  rcases l with l|⟨k,c,e,z⟩
  ·exact .inl l
  ·exact .inr ⟨k,c,e,cellK x c e _ z⟩
 ·obtain⟨v,z⟩:=I.cell x c e
  exact⟨v,cellK x c e v z⟩
 ·obtain⟨m,⟨o,_,_,ho,_⟩,_⟩:=I.loc
  exact free _ o (fun z=>(hch _ z).2.1 rfl) ho I.free
 ·obtain⟨v,o,ho,hd⟩:=I.cell x c e
  exact free c o (fun z=>(hch c z).2.2.1 x c e rfl) ho (I.freeC x c e)
 ·obtain⟨e,n,ne,nf,d⟩:=I.pin p hp
  have nch:p.1∉ch:=fun z=>(hch p.1 z).2.2.2 p hp rfl
  exact⟨keep p.1 p.2 ne nf nch e n,free p.1 p.2 nch e n,ne,nf,d⟩
theorem Inv.un {t':Nat} (I:Inv X pins σ H s) (u:Un X.fs [] H H' s.heap h') (hok:HOk X.prog X.w H' h'):Inv X pins σ H' {s with heap:=h',toks:=t'}:=by
 obtain⟨m,⟨o,es,ep,ho,r⟩,_⟩:=id I.loc
 obtain⟨sl,hL⟩:=u.any ho I.free (by simp)
 exact I.step (g':=s.gens) (d':=s.drawn) (ch:=[]) (fun _ z=>nomatch z) (fun b o _ hb _ e n=>u.keep b o e n hb (by simp)) (fun b o _ hb _ e n=>u.slot b o e n hb (by simp)) (fun b o _ e n=>u.free b o e n (by simp)) (fun b o _ e=>u.there b o e (by simp)) u.tups u.frzs u.tbls (fun m' hm=>by
  obtain⟨o',es',ep',ho',r'⟩:=hm
  rw[ho] at ho';cases ho'
  exact⟨_,es',ep',hL,r'⟩) hok I.bare
theorem Inv.call {g':Array GenState}{t':Nat}{d':Drawn}{ch:List Addr} (I:Inv X pins σ H s) (u:Un (frs X.stack) ch H H' s.heap h') (hok:HOk X.prog X.w H' h') (hg:AllBare g')
 (hch:∀b∈ch,(b∈X.ex∨X.s₀.heap.objs.size≤b)∧b≠X.env.locals∧(∀x c,X.env.cells.lookup x=some c→c≠b)∧∀p∈X.pn++pins,p.1≠b):
 Inv X pins σ H' {s with heap:=h',gens:=g',drawn:=d',toks:=t'}:=by
 obtain⟨m,⟨o,es,ep,ho,r⟩,_⟩:=id I.loc
 obtain⟨sl,hL⟩:=u.any ho I.free fun z=>(hch _ z).2.1 rfl
 exact I.step (ch:=ch) hch (fun b o hL hb hc e n=>u.keep b o e n (fun z=>(q0r.mp (I.stkSub b z)).elim hL hb) hc) (fun b o _ _ hc e n=>u.any e n hc) (fun b o hc e n=>u.free b o e n hc) (fun b o hc e=>u.there b o e hc) u.tups u.frzs u.tbls (fun m' hm=>by
  obtain⟨o',es',ep',ho',r'⟩:=hm
  rw[ho] at ho';cases ho'
  exact⟨_,es',ep',hL,r'⟩) hok hg
theorem Inv.turned {t':Nat}{it:Addr} (I:Inv X pins σ H s) (k:∀b o,b≠it→s.heap.get? b=some o→h'.get? b=some o) (hn:H it=none) (hL:it≠X.env.locals)
 (h1:it∈X.ex∨X.s₀.heap.objs.size≤it) (h2:∀x c,X.env.cells.lookup x=some c→c≠it) (h3:∀p∈X.pn++pins,p.1≠it):Inv X pins σ H {s with heap:=h',toks:=t'}:=by
 have nit:∀b u,H b=some u→b≠it:=fun b u e z=>by rw[z,hn] at e;cases e
 refine I.step (g':=s.gens) (d':=s.drawn) (ch:=[it]) (fun b hb=>?_) (fun b o _ _ hc e _=>k b o (fun z=>hc (by simp[z])) e) (fun b o _ _ hc e _=>⟨o.slots,k b o (fun z=>hc (by simp[z])) e⟩) (fun _ _ _ _ n=>n)
  (fun b o hc e=>⟨o,k b o (fun z=>hc (by simp[z])) e⟩) (fun _ _ e=>e) (fun _ _ _ e=>e) (fun b ps e=>⟨#[],by rw[e];simp⟩) (fun m hm=>?_) (fun b u e=>?_) I.bare
 ·have e:b=it:=by simpa using hb
  subst e
  exact⟨h1,hL,h2,h3⟩
 ·obtain⟨o,es,ep,ho,r⟩:=hm
  exact⟨o,es,ep,k _ o (Ne.symm hL) ho,r⟩
 ·refine (I.hok b u e).stay (fun c v hc q=>k c v ?_ q) (fun _ q=>q) fun _ _ q=>q
  rcases hc with z|z
  ·rw[z];exact nit b u e
  ·exact nit c _ z
theorem Inv.tok (I:Inv X pins σ H s) (t:Nat):Inv X pins σ H {s with toks:=t}:=I.un (h':=s.heap) (t':=t) Un.refl I.hok
theorem Inv.kept {t':Nat} (I:Inv X pins σ H s) (k:∀b u,s.heap.get? b=some u→h'.get? b=some u):Inv X pins σ H {s with heap:=h',toks:=t'}:=I.un (Un.kept k) (I.hok.kept k)
theorem Inv.laid {a:Addr}{o:HO}{t':Nat} (I:Inv X pins σ H s) (k:∀b u,s.heap.get? b=some u→h'.get? b=some u) (hp:s.heap.objs.size≤a) (new:ObjOk X.prog X.w (upd H a o) h' a o):
 Inv X pins σ (upd H a o) {s with heap:=h',toks:=t'}:=I.un (Un.laid k hp (I.hok.fresh hp)) (I.hok.laid k hp new)
theorem Inv.write {x e:Addr}{o:HO}{t':Nat} (I:Inv X pins σ H s) (mu:Mut (H x)) (he:e=x∨H e=some (.own x)) (k:∀b u,b≠e→s.heap.get? b=some u→h'.get? b=some u) (heo:∃u,h'.get? e=some u)
 (new:ObjOk X.prog X.w (upd H x o) h' x o):Inv X pins σ (upd H x o) {s with heap:=h',toks:=t'}:=I.un (Un.write mu he k heo) (I.hok.write mu he k heo new)
theorem Inv.pins_of {pins':List (Addr×Obj)} (I:Inv X pins σ H s) (h:∀p∈pins',s.heap.get? p.1=some p.2∧H p.1=none∧p.1≠X.env.locals∧p.1∉X.fs∧∀v,p.2.data≠ .cell v):Inv X pins' σ H s:=
 ⟨I.ok,I.os,I.bare,I.base,I.loc,I.cell,I.free,I.freeC,fun p hp=>(q0H.mp hp).elim (fun z=>I.pin p (q0B _ z)) (h p),I.hok,I.len⟩
theorem z8P {N:List Str} (hN:N.Nodup) {i j:Nat}{x:Str} (a:N[i]? =some x) (b:N[j]? =some x):i=j:=by
 obtain⟨h1,e1⟩:=q0t.mp a
 obtain⟨h2,e2⟩:=q0t.mp b
 exact (List.getElem_inj hN).mp (e1.trans e2.symm)
theorem z6x {M:Model}{A:Around}{E:Value→Shared→Prop}{i:Nat}{x:Str}{v:V}{u:Value}{Q:Unit→Shared→Prop} (I:Inv X pins σ H s) (hN:X.N.Nodup) (hi:X.N[i]? =some x) (hx:Loc X.env.scope x) (r:RelV v u)
 (h:∀s',Inv X pins (σ.set i (some v)) H s'→(∃a,Heap.SameBut a s.heap s'.heap∧(a=X.env.locals∨X.env.cells.lookup x=some a))→Q () s') (hf:X.fn x=true∨X.env.scope.names.lookup x=some .local :=by first|exact .inl rfl|exact .inr rfl|assumption):wpAny M A (storeName X.env x u) Q E s:=by
 obtain⟨m,hn,hl⟩:=id I.loc
 have hcls:(X.env.scope.kind== .class || (X.env.scope.kind== .module &&X.env.locals != X.env.globals))=false:=by rw[I.ok.kind];rfl
 have hiσ:i<σ.length:=by rw[I.len];exact (q0t.mp hi).1
 have cne:=I.cne
 have tracked:∀{a:Addr}{h':Heap},(∃o,s.heap.get? a=some o∧H a=none)→Heap.SameBut a s.heap h'→HOk X.prog X.w H h':=fun {a h'} ha hs b ob e=>by
  obtain⟨_,_,hfree⟩:=ha
  refine (I.hok b ob e).stay (fun c w' hc q=>(hs.2 c ?_).trans q) (fun _ q=>q) fun _ _ q=>q
  rintro rfl
  rcases hc with rfl|hc
  ·rw[hfree] at e;cases e
  ·rw[hfree] at hc;cases hc
 rcases hx with hk|hk
 ·refine wpAny_storeName_local hk hn (fun h' hn' hs=>?_) hcls
  obtain⟨oL,_,_,hoL,_⟩:=id hn
  refine h _ ⟨I.ok,I.os,I.bare,⟨fun b o e n hb hx=>?_,fun b o e n hb hx=>?_,I.base.free,fun b o e hx=>?_,I.base.tups,I.base.frzs,I.base.tbls⟩,⟨_,hn',fun j y v' e1 e2 e3=>?_⟩,fun y c e=>?_,I.free,I.freeC,fun p hp=>?_,tracked ⟨oL,hoL,I.free⟩ hs,by simpa using I.len⟩ ⟨_,hs,.inl rfl⟩
  ·exact (hs.2 b (q0w (q0N (q0q e) I.ok.above))).trans (I.base.keep b o e n hb hx)
  ·obtain⟨sl,e1⟩:=I.base.slot b o e n hb hx
   exact⟨sl,(hs.2 b (q0w (q0N (q0q e) I.ok.above))).trans e1⟩
  ·obtain⟨o',e1⟩:=I.base.there b o e hx
   exact⟨o',(hs.2 b (q0w (q0N (q0q e) I.ok.above))).trans e1⟩
  ·by_cases hj:j=i
   ·subst hj
    rw[hi] at e1;cases e1
    rw[List.getElem?_set_self hiσ] at e2
    cases e2
    exact⟨u,r,.inl ⟨hk,by simp⟩⟩
   ·rw[List.getElem?_set_ne (Ne.symm hj)] at e2
    obtain⟨u',r',q⟩:=hl j y v' e1 e2 e3
    refine⟨u',r',?_⟩
    rcases q with⟨k,e⟩|⟨k,c,e,z⟩
    ·refine .inl ⟨k,?_⟩
     have:y≠x:=fun e=>hj (z8P hN e1 (e▸hi))
     simp[this,e]
    ·exact .inr ⟨k,c,e,z.sameBut hs (cne y c e)⟩
  ·obtain⟨w',z⟩:=I.cell y c e
   exact⟨w',z.sameBut hs (cne y c e)⟩
  ·obtain⟨e,n,ne,nf,d⟩:=I.pin p hp
   exact⟨(hs.2 p.1 ne).trans e,n,ne,nf,d⟩
 ·have hfn:X.fn x=true:=by
   rcases hf with z|z
   ·exact z
   ·rw[z] at hk;cases hk
  obtain⟨c,hc⟩:=I.ok.has x (.inl hk)
  obtain⟨w',z⟩:=I.cell x c hc
  refine wpAny_storeName_cell I.ok.kind hk hc z (fun h' hc' hs=>?_)
  obtain⟨oc,hoc,hocd⟩:=id z
  refine h {s with heap:=h'} ⟨I.ok,I.os,I.bare,⟨fun b o e n hb hx=>?_,fun b o e n hb hx=>?_,I.base.free,fun b o e hx=>?_,I.base.tups,I.base.frzs,I.base.tbls⟩,⟨m,hn.sameBut hs (Ne.symm (cne x c hc)),fun j y v' e1 e2 e3=>?_⟩,fun y c' e=>?_,I.free,I.freeC,fun p hp=>?_,tracked ⟨oc,hoc,I.freeC x c hc⟩ hs,by simpa using I.len⟩ ⟨c,hs,.inr hc⟩
  ·exact (hs.2 b (q0w (q0N (q0q e) (I.ok.cab x c hfn hc)))).trans (I.base.keep b o e n hb hx)
  ·obtain⟨sl,e1⟩:=I.base.slot b o e n hb hx
   exact⟨sl,(hs.2 b (q0w (q0N (q0q e) (I.ok.cab x c hfn hc)))).trans e1⟩
  ·obtain⟨o',e1⟩:=I.base.there b o e hx
   exact⟨o',(hs.2 b (q0w (q0N (q0q e) (I.ok.cab x c hfn hc)))).trans e1⟩
  ·by_cases hj:j=i
   ·subst hj
    rw[hi] at e1;cases e1
    rw[List.getElem?_set_self hiσ] at e2
    cases e2
    exact⟨u,r,.inr ⟨.inl hk,c,hc,hc'⟩⟩
   ·rw[List.getElem?_set_ne (Ne.symm hj)] at e2
    obtain⟨u',r',q⟩:=hl j y v' e1 e2 e3
    refine⟨u',r',?_⟩
    rcases q with q|⟨k,c',e,z'⟩
    ·exact .inl q
    ·refine .inr ⟨k,c',e,z'.sameBut hs ?_⟩
     rintro rfl
     exact hj (z8P hN e1 (I.ok.inj _ _ _ e hc▸hi))
  ·by_cases hcc:c'=c
   ·subst hcc;exact⟨_,hc'⟩
   ·obtain⟨w2,z2⟩:=I.cell y c' e
    exact⟨w2,z2.sameBut hs hcc⟩
  ·obtain⟨e,n,ne,nf,d⟩:=I.pin p hp
   refine⟨(hs.2 p.1 ?_).trans e,n,ne,nf,d⟩
   intro q
   rw[q,hoc] at e
   have q':oc=p.2:=Option.some.inj e
   exact d w' (by rw[←q'];exact hocd)
theorem z3J {M:Model}{A:Around}{E:Value→Shared→Prop}{i:Nat}{x:Str}{v:V}{u:Value}{Q:Unit→Shared→Prop} (I:Inv X pins σ H s) (hN:X.N.Nodup) (hi:X.N[i]? =some x) (hx:Loc X.env.scope x) (r:RelV v u)
 (h:∀s',Inv X pins (σ.set i (some v)) H s'→Q () s') (hf:X.fn x=true∨X.env.scope.names.lookup x=some .local :=by first|exact .inl rfl|exact .inr rfl|assumption):wpAny M A (storeName X.env x u) Q E s:=
 z6x I hN hi hx r (fun s' I' _=>h s' I') hf
theorem Inv.call' {s':Shared}{ch:List Addr} (I:Inv X pins σ H s) (ho:s'.os=s.os) (u:Un (frs X.stack) ch H H' s.heap s'.heap) (hok:HOk X.prog X.w H' s'.heap) (hg:AllBare s'.gens)
 (hch:∀b∈ch,(b∈X.ex∨X.s₀.heap.objs.size≤b)∧b≠X.env.locals∧(∀x c,X.env.cells.lookup x=some c→c≠b)∧∀p∈X.pn++pins,p.1≠b):Inv X pins σ H' s':=by
 obtain⟨h',g',d',t',o'⟩:=s'
 have e:o'=s.os:=ho
 subst e
 exact I.call (g':=g') (t':=t') (d':=d') u hok hg hch
end
abbrev XK:=Value→Option Addr→Hp→Prop
abbrev St:=List (Option V)
abbrev VK:=V→Hp→Prop
abbrev TE:=St→Hp→VK→Prop
abbrev TT:=St→Hp→(Bool→Hp→Prop)→Prop
abbrev TA:=St→Hp→(List V→Hp→Prop)→Prop
structure y4w where
 nx:St→Hp→Prop
 rt:VK
 bk:St→Hp→Prop:=fun _ _=>False
 ct:St→Hp→Prop:=fun _ _=>False
abbrev TS:=y4w→St→Hp→Prop
def EP (X:Cx) (pins:List (Addr×Obj)) (σ:St) (Q:VK) (u:Value) (s':Shared):Prop:=∃v H',Inv X pins σ H' s'∧RelV v u∧Q v H'
def TP (X:Cx) (pins:List (Addr×Obj)) (σ:St) (Q:Bool→Hp→Prop) (b:Bool) (s':Shared):Prop:=∃H',Inv X pins σ H' s'∧Q b H'
def AP (X:Cx) (pins:List (Addr×Obj)) (σ:St) (Q:List V→Hp→Prop) (us:List Value) (s':Shared):Prop:=∃vs H',Inv X pins σ H' s'∧Vals vs us∧Q vs H'
def SP (X:Cx) (pins:List (Addr×Obj)) (D:y4w) (f:Flow) (s':Shared):Prop:=
 match f with
 | .next =>∃σ' H',Inv X pins σ' H' s'∧D.nx σ' H'
 | .brk =>∃σ' H',Inv X pins σ' H' s'∧D.bk σ' H'
 | .cont =>∃σ' H',Inv X pins σ' H' s'∧D.ct σ' H'
 | .ret u=>∃v σ' H',Inv X pins σ' H' s'∧RelV v u∧D.rt v H'
def PE (X:Cx) (e:Expr) (t:TE):Prop:=
 ∀(pins:List (Addr×Obj)) (s:Shared) (σ:St) (H:Hp) (Q:VK),Inv X pins σ H s→t σ H Q→wpAny (model X.prog X.w) X.A (eval e X.env) (EP X pins σ Q) X.xe s
def PT (X:Cx) (e:Expr) (t:TT):Prop:=
 ∀(pins:List (Addr×Obj)) (s:Shared) (σ:St) (H:Hp) (Q:Bool→Hp→Prop),Inv X pins σ H s→t σ H Q→wpAny (model X.prog X.w) X.A (isTrue e X.env (eval e X.env)) (TP X pins σ Q) X.xe s
def PW (X:Cx) (e:Expr) (t:TT):Prop:=
 ∀(whole:Sem Value) (pins:List (Addr×Obj)) (s:Shared) (σ:St) (H:Hp) (Q:Bool→Hp→Prop),Inv X pins σ H s→t σ H Q→wpAny (model X.prog X.w) X.A (isTrue e X.env whole) (TP X pins σ Q) X.xe s
theorem PW.pt {X:Cx}{e:Expr}{t:TT} (h:PW X e t):PT X e t:=h _
def PA (X:Cx) (es:List Expr) (t:TA):Prop:=
 ∀(pos:Pos) (pins:List (Addr×Obj)) (s:Shared) (σ:St) (H:Hp) (Q:List V→Hp→Prop),Inv X pins σ H s→t σ H Q→wpAny (model X.prog X.w) X.A (spliced (backTo pos (starEach es X.env))) (AP X pins σ Q) X.xe s
def PS (X:Cx) (st:Stmt) (t:TS):Prop:=
 ∀(pins:List (Addr×Obj)) (s:Shared) (σ:St) (H:Hp) (D:y4w),Inv X pins σ H s→t D σ H→wpAny (model X.prog X.w) X.A (exec st X.env) (SP X pins D) X.xe s
def PSs (X:Cx) (st:List Stmt) (t:TS):Prop:=
 ∀(pins:List (Addr×Obj)) (s:Shared) (σ:St) (H:Hp) (D:y4w),Inv X pins σ H s→t D σ H→wpAny (model X.prog X.w) X.A (execs st X.env) (SP X pins D) X.xe s
theorem thn {α:Type}{t:Sem α}{Q Q':α→Shared→Prop}{M:Model}{A:Around}{E:Value→Shared→Prop}{s:Shared} (h:wpAny M A t Q E s) (hQ:∀a s,Q a s→Q' a s):wpAny M A t Q' E s:=wpAny_mono h hQ fun _ _ x=>x
end L2
namespace L2
open PySem PySem.Spec PyProof.Rows
section
variable {X:Cx}
def tVar (i:Nat):TE:=fun σ H Q=>∃v,σ[i]? =some (some v)∧Q v H
def tC (v:V):TE:=fun _ H Q=>Q v H
theorem y6p {i:Nat}{x:Str}{pos:Pos} (hN:X.N[i]? =some x) (hv:Vis X.env.scope x) (hd:(x==("__debug__":Str))=false:=by decide) (hcd:(x==("__classdict__":Str))=false:=by decide):PE X (.Name x pos) (tVar i):=by
 intro pins s σ H Q I h
 obtain⟨v,e,h⟩:=h
 obtain⟨m,hn,hl⟩:=I.loc
 obtain⟨u,r,l⟩:=hl i x v hN e hv
 have fin:EP X pins σ Q u s:=⟨v,H,I,r,h⟩
 rcases l with⟨hk,hm⟩|⟨hk,c,hc,hcell⟩
 ·exact wpAny_Name (wpAny_loadName_local I.ok.kind hk hn hm fin) hd
 ·rcases hk with hk|hk
  ·exact wpAny_Name (wpAny_loadName_cell I.ok.kind hk hc hcell fin) hd
  ·exact wpAny_Name (wpAny_loadName_free I.ok.kind hk hc hcell fin hcd) hd
theorem z0g {i j pos}:PE X (.Constant (.int i) j pos) (tC (.int i)):=fun _ _ _ H _ I h=>wpAny_Constant_int ⟨.int i,H,I.tok _,⟨_,rfl⟩,h⟩
theorem z1r {b j pos}:PE X (.Constant (.bool b) j pos) (tC (.bl b)):=fun _ _ _ H _ I h=>Constant_bool ⟨.bl b,H,I,rfl,h⟩
theorem z3C {j pos}:PE X (.Constant .none j pos) (tC .non):=fun _ _ _ H _ I h=>Constant_none ⟨.non,H,I,rfl,h⟩
def Gl (X:Cx) (x:Str):Prop:=X.env.kindOf x=some .globalImplicit
theorem z8c {E:Value→Shared→Prop}{pins:List (Addr×Obj)}{s:Shared}{σ:St}{H:Hp}{x:Str}{u:Value}{pos:Pos}{Q:Value→Shared→Prop} (I:Inv X pins σ H s) (hg:Gl X x) (hm:X.mg x=some u) (h:Q u s)
 (hd:(x==("__debug__":Str))=false:=by decide):wpAny (model X.prog X.w) X.A (eval (.Name x pos) X.env) Q E s:=
 Calls.Name_function_global I.ok.kind hg (Calls.loadGlobal_global (by rw[I.ok.glob];exact I.mod.glob.keeps I.bk) hm h) hd
theorem z3D {E:Value→Shared→Prop}{pins:List (Addr×Obj)}{s:Shared}{σ:St}{H:Hp}{x:Str}{u:Value}{pos:Pos}{Q:Value→Shared→Prop} (I:Inv X pins σ H s) (hg:Gl X x) (hm:X.mg x=none) (hv:bootBuiltins x=some u) (h:Q u s)
 (hn:x≠"__name__":=by decide) (hd:(x==("__debug__":Str))=false:=by decide):wpAny (model X.prog X.w) X.A (eval (.Name x pos) X.env) Q E s:=by
 obtain⟨mb,h1,h2⟩:=I.mod.blt
 exact Calls.Name_function_global I.ok.kind hg (Calls.loadGlobal_builtin (by rw[I.ok.glob];exact I.mod.glob.keeps I.bk) hm (by rw[I.ok.blt];exact h1.keeps I.bk) ((h2 x hn).trans hv) h) hd
theorem y4U {x:Str}{v:V}{u:Value}{pos:Pos} (hg:Gl X x) (hm:X.mg x=some u) (r:RelV v u) (hd:(x==("__debug__":Str))=false:=by decide):PE X (.Name x pos) (tC v):=
 fun _ _ _ H _ I h=>z8c I hg hm ⟨v,H,I,r,h⟩ hd
theorem z2m {x:Str}{v:V}{u:Value}{pos:Pos} (hg:Gl X x) (hm:X.mg x=none) (hv:bootBuiltins x=some u) (r:RelV v u) (hn:x≠"__name__":=by decide) (hd:(x==("__debug__":Str))=false:=by decide):PE X (.Name x pos) (tC v):=
 fun _ _ _ H _ I h=>z3D I hg hm hv ⟨v,H,I,r,h⟩ hn hd
variable {a b:Expr}{ta tb:TE}{pos:Pos}
def PC (X:Cx) (op:CmpOp) (a b:Expr) (t:TE):Prop:=
 ∀(pins:List (Addr×Obj)) (s:Shared) (σ:St) (H:Hp) (Q:VK),Inv X pins σ H s→t σ H Q→
  wpAny (model X.prog X.w) X.A (eval a X.env) (fun v s₁=>wpAny (model X.prog X.w) X.A (eval b X.env) (fun u s₂=>wpAny (model X.prog X.w) X.A (compareOp op v u) (EP X pins σ Q) X.xe s₂) X.xe s₁) X.xe s
theorem z8Q (b:Expr) {op:CmpOp} (h:op≠ .In) (h2:op≠ .NotIn):behindInMarks op b=false:=by
 have e1:(op==CmpOp.In)=false:=by cases op<;>first|rfl|exact absurd rfl h
 have e2:(op==CmpOp.NotIn)=false:=by cases op<;>first|rfl|exact absurd rfl h2
 cases b<;>simp[behindInMarks,e1,e2]
def tIsN (ta:TE):TE:=fun σ H Q=>ta σ H fun x H1=>Q (.bl (decide (x= .non))) H1
def tNotN (ta:TE):TE:=fun σ H Q=>ta σ H fun x H1=>Q (.bl (!decide (x= .non))) H1
theorem RelV.none_iff {x:V}{v:Value} (r:RelV x v):(v==Value.none)=decide (x= .non):=by
 cases x with
 |non=>cases r;rfl
 |bl _=>cases r;rfl
 |int _=>obtain⟨t,rfl⟩:=r;rfl
 |str _=>obtain⟨t,rfl⟩:=r;rfl
 |byt _=>obtain⟨t,rfl⟩:=r;rfl
 |flt _=>obtain⟨t,rfl⟩:=r;rfl
 |ref _=>cases r;rfl
 |ty _=>cases r;rfl
theorem z5i {j pos'} (ha:PE X a ta):PC X .Is a (.Constant .none j pos') (tIsN ta):=by
 intro pins s σ H Q I h
 refine thn (ha pins s σ H _ I h) fun v s1 ⟨x,H1,I1,r1,q1⟩=>?_
 exact Constant_none (is_none_gen ⟨.bl _,H1,I1,by rw[r1.none_iff];rfl,q1⟩)
theorem z5T {j pos'} (ha:PE X a ta):PC X .IsNot a (.Constant .none j pos') (tNotN ta):=by
 intro pins s σ H Q I h
 refine thn (ha pins s σ H _ I h) fun v s1 ⟨x,H1,I1,r1,q1⟩=>?_
 exact Constant_none (isnot_none_gen ⟨.bl _,H1,I1,by rw[r1.none_iff];rfl,q1⟩)
def tB (t:TE):TT:=fun σ H Q=>t σ H fun x H1=>∃c,x= .bl c∧Q c H1
theorem y6q {op:CmpOp}{t:TE} (h:PC X op a b t) (h1:behindInMarks op b=false:=by first|exact z8Q _ (by decide) (by decide)|rfl):PE X (.Compare a [op] [b] pos) t:=fun pins s σ H Q I hw=>wpAny_Compare1 (h pins s σ H Q I hw) h1
theorem z3b {op:CmpOp}{t:TE} (h:PC X op a b t) (h1:behindInMarks op b=false:=by first|exact z8Q _ (by decide) (by decide)|rfl):PT X (.Compare a [op] [b] pos) (tB t):=by
 intro pins s σ H Q I hw
 refine wpAny_isTrue_Compare1 (thn (h pins s σ H _ I hw) fun v s1 h1=>thn h1 fun u s2 h2=>thn h2 fun c s3 ⟨x,H1,I1,r1,q1⟩=>?_) h1
 obtain⟨d,rfl,q⟩:=q1
 cases r1
 exact wpAny_truthy_bool ⟨H1,I1,q⟩
theorem z0W {e:Expr}{t:TE} (h:PE X e t) (he:∀whole,isTrue e X.env whole=(do let v ←whole;standAt e.pos;holding [v] (truthy v)):=by intro _;rfl):PT X e (tB t):=by
 intro pins s σ H Q I hw
 refine isTrue_plain (thn (h pins s σ H _ I hw) fun v s1 ⟨x,H1,I1,r1,q1⟩=>?_) (he _)
 obtain⟨d,rfl,q⟩:=q1
 cases r1
 exact wpAny_truthy_bool ⟨H1,I1,q⟩
variable {tA tB':TT}{rest:List Expr}
def tAnd (t u:TT):TT:=fun σ H Q=>t σ H fun c H1=>if c=true then u σ H1 Q else Q false H1
def tOr (t u:TT):TT:=fun σ H Q=>t σ H fun c H1=>if c=true then Q true H1 else u σ H1 Q
def tNot (t:TT):TT:=fun σ H Q=>t σ H fun c H1=>Q (!c) H1
theorem y4P (ha:PT X a tA):PW X (.BoolOp .And [a] pos) tA:=by
 intro wh pins s σ H Q I h
 refine isTrue_and (thn (ha pins s σ H Q I h) fun c s1 e=>?_)
 cases c with
 |true=>exact isTrue_and_nil e
 |false=>exact e
theorem z3a (ha:PT X a tA):PW X (.BoolOp .Or [a] pos) tA:=by
 intro wh pins s σ H Q I h
 refine isTrue_or (thn (ha pins s σ H Q I h) fun c s1 e=>?_)
 cases c with
 |false=>exact isTrue_or_nil e
 |true=>exact e
theorem y6j (ha:PT X a tA) (hb:PW X (.BoolOp .And (b::rest) pos) tB'):PW X (.BoolOp .And (a::b::rest) pos) (tAnd tA tB'):=by
 intro wh pins s σ H Q I h
 refine isTrue_and (thn (ha pins s σ H _ I h) fun c s1 ⟨H1,I1,q1⟩=>?_)
 cases c with
 |true=>exact hb wh pins s1 σ H1 Q I1 q1
 |false=>exact⟨H1,I1,q1⟩
theorem z3G (ha:PT X a tA) (hb:PW X (.BoolOp .Or (b::rest) pos) tB'):PW X (.BoolOp .Or (a::b::rest) pos) (tOr tA tB'):=by
 intro wh pins s σ H Q I h
 refine isTrue_or (thn (ha pins s σ H _ I h) fun c s1 ⟨H1,I1,q1⟩=>?_)
 cases c with
 |true=>exact⟨H1,I1,q1⟩
 |false=>exact hb wh pins s1 σ H1 Q I1 q1
theorem z1e (ha:PT X a tA):PT X (.UnaryOp .Not a pos) (tNot tA):=by
 intro pins s σ H Q I h
 exact isTrue_not (ha pins s σ H (fun c H1=>Q (!c) H1) I h)
def tAndV (ta tb:TE):TE:=fun σ H Q=>ta σ H fun x H1=>∃c,x= .bl c∧if c=true then tb σ H1 Q else Q (.bl false) H1
def tOrV (ta tb:TE):TE:=fun σ H Q=>ta σ H fun x H1=>∃c,x= .bl c∧if c=true then Q (.bl true) H1 else tb σ H1 Q
def tNotV (ta:TE):TE:=fun σ H Q=>ta σ H fun x H1=>∃c,x= .bl c∧Q (.bl (!c)) H1
theorem z8L {op}{t:TE} (h:PE X a t):PE X (.BoolOp op [a] pos) t:=fun pins s σ H Q I hw=>BoolOp_one (h pins s σ H Q I hw)
theorem y1l (ha:PE X a ta) (hb:PE X (.BoolOp .And (b::rest) pos) tb):PE X (.BoolOp .And (a::b::rest) pos) (tAndV ta tb):=by
 intro pins s σ H Q I h
 refine BoolOp_and (thn (ha pins s σ H _ I h) fun v s1 ⟨x,H1,I1,r1,q1⟩=>?_)
 obtain⟨c,rfl,q1⟩:=q1
 cases r1
 refine wpAny_truthy_bool ?_
 cases c with
 |true=>exact hb pins s1 σ H1 Q I1 q1
 |false=>exact⟨.bl false,H1,I1,rfl,q1⟩
theorem pe_or (ha:PE X a ta) (hb:PE X (.BoolOp .Or (b::rest) pos) tb):PE X (.BoolOp .Or (a::b::rest) pos) (tOrV ta tb):=by
 intro pins s σ H Q I h
 refine BoolOp_or (thn (ha pins s σ H _ I h) fun v s1 ⟨x,H1,I1,r1,q1⟩=>?_)
 obtain⟨c,rfl,q1⟩:=q1
 cases r1
 refine wpAny_truthy_bool ?_
 cases c with
 |false=>exact hb pins s1 σ H1 Q I1 q1
 |true=>exact⟨.bl true,H1,I1,rfl,q1⟩
theorem y4d (ha:PE X a ta):PE X (.UnaryOp .Not a pos) (tNotV ta):=by
 intro pins s σ H Q I h
 refine UnaryOp_ (thn (ha pins s σ H _ I h) fun v s1 ⟨x,H1,I1,r1,q1⟩=>?_)
 obtain⟨c,rfl,q1⟩:=q1
 cases r1
 exact not_of (wpAny_truthy_bool ⟨.bl (!c),H1,I1,rfl,q1⟩)
def tIf (t:TT) (ta tb:TE):TE:=fun σ H Q=>t σ H fun c H1=>if c=true then ta σ H1 Q else tb σ H1 Q
theorem z3M {c:Expr} (hc:PT X c tA) (ha:PE X a ta) (hb:PE X b tb):PE X (.IfExp c a b pos) (tIf tA ta tb):=by
 intro pins s σ H Q I h
 refine wpAny_IfExp (thn (hc pins s σ H _ I h) fun d s1 ⟨H1,I1,q1⟩=>?_)
 cases d with
 |true=>exact ha pins s1 σ H1 Q I1 q1
 |false=>exact hb pins s1 σ H1 Q I1 q1
end
end L2
namespace L2
open PySem PySem.Spec PyProof.Rows
def SqL (K:PySem.W.Frag) (H:Hp) (a:Addr) (xs:List V):Prop:=
 Rd H a (.lst xs)∨
    ∃(o:Obj) (its:Array Value) (n:Nat),K.lookup a=some o∧o.cls= .type "list"∧o.dict=none∧o.data= .seq its n∧its.size≤sizeLine∧Vals xs its.toList
def SqT (K:PySem.W.Frag) (H:Hp) (a:Addr) (xs:List V):Prop:=
 Rd H a (.tup xs)∨
    ∃(o:Obj) (its:Array Value) (n:Nat),K.lookup a=some o∧o.cls= .type "tuple"∧o.data= .seq its n∧its.size≤sizeLine∧Vals xs its.toList
def absV:Value→Option V
 | .none =>some .non
 | .bool b=>some (.bl b)
 | .int i _=>some (.int i)
 | .str x _=>some (.str x)
 | .bytes b _=>some (.byt b)
 | .float b _=>some (.flt b)
 | .ref a=>some (.ref a)
 | .type n=>some (.ty n)
 |_=>none
theorem RelV.abs {x:V}{u:Value} (r:RelV x u):absV u=some x:=by
 cases x with
 |non=>cases r;rfl
 |bl _=>cases r;rfl
 |int _=>obtain⟨t,rfl⟩:=r;rfl
 |str _=>obtain⟨t,rfl⟩:=r;rfl
 |byt _=>obtain⟨t,rfl⟩:=r;rfl
 |flt _=>obtain⟨t,rfl⟩:=r;rfl
 |ref _=>cases r;rfl
 |ty _=>cases r;rfl
theorem RelV.inj {x y:V}{u:Value} (r:RelV x u) (q:RelV y u):x=y:=Option.some.inj (r.abs.symm.trans q.abs)
theorem Vals.inj:∀{xs ys:List V}{us:List Value},Vals xs us→Vals ys us→xs=ys
 |_,_,_,.nil,.nil =>rfl
 |_,_,_,.cons r t,.cons r' t'=>by rw[r.inj r',Vals.inj t t']
section
variable {X:Cx}{pins:List (Addr×Obj)}{σ:St}{H:Hp}{s:Shared}{a:Addr}{xs ys:List V}
theorem SqL.of {K:PySem.W.Frag} (h:H a=some (.lst xs)):SqL K H a xs:= .inl (.inl h)
theorem SqT.of {K:PySem.W.Frag} (h:H a=some (.tup xs)):SqT K H a xs:= .inl (.inl h)
theorem Inv.list (I:Inv X pins σ H s) (h:SqL X.K H a xs):∃its:List Value,Vals xs its∧PlainL s.heap a its.toArray∧xs.length≤sizeLine:=by
 rcases h with h|⟨o,its,n,hk,hc,hd,hs,hz,r⟩
 ·obtain⟨z,its,n,r,e⟩:=h.ok I.hok
  exact⟨its,r,⟨_,n,e,rfl,rfl,rfl⟩,z⟩
 ·refine⟨its.toList,r,⟨o,n,I.kIn a o hk,hc,hd,by simpa using hs⟩,?_⟩
  have e:=r.length
  simp only[q1z] at e
  lia
theorem Inv.tuple (I:Inv X pins σ H s) (h:SqT X.K H a xs):∃its:List Value,Vals xs its∧IsTup s.heap a its.toArray∧xs.length≤sizeLine:=by
 rcases h with h|⟨o,its,n,hk,hc,hs,hz,r⟩
 ·obtain⟨z,its,r,p⟩:=h.ok I.hok
  exact⟨its,r,p,z⟩
 ·refine⟨its.toList,r,⟨o,I.kIn a o hk,hc,n,by simpa using hs⟩,?_⟩
  have e:=r.length
  simp only[q1z] at e
  lia
theorem Inv.list_inj (I:Inv X pins σ H s) (h:SqL X.K H a xs) (h':SqL X.K H a ys):xs=ys:=by
 obtain⟨its,r,⟨o,n,e,_,_,d⟩,_⟩:=I.list h
 obtain⟨its',r',⟨o',n',e',_,_,d'⟩,_⟩:=I.list h'
 rw[e] at e';cases e'
 rw[d] at d'
 injection d' with d1 _
 have:its=its':=by simpa using congrArg Array.toList d1
 subst this
 exact r.inj r'
theorem Inv.tuple_inj (I:Inv X pins σ H s) (h:SqT X.K H a xs) (h':SqT X.K H a ys):xs=ys:=by
 obtain⟨its,r,⟨o,e,_,n,d⟩,_⟩:=I.tuple h
 obtain⟨its',r',⟨o',e',_,n',d'⟩,_⟩:=I.tuple h'
 rw[e] at e';cases e'
 rw[d] at d'
 injection d' with d1 _
 have:its=its':=by simpa using congrArg Array.toList d1
 subst this
 exact r.inj r'
end
abbrev Cx.wish (X:Cx) (E:Value→Shared→Prop):Cx:={X with xe:=E}
abbrev Cx.nox (X:Cx):Cx:=X.wish fun _ _=>False
theorem Cx.Ok.wish {X:Cx} (ok:X.Ok) (E:Value→Shared→Prop):(X.wish E).Ok :=
 ⟨ok.mod,ok.kind,ok.glob,ok.blt,ok.above,ok.inj,ok.has,ok.cab,ok.hd,ok.frames,ok.stk,ok.exf,ok.bs,ok.bsz,ok.noex,ok.exfs,ok.funs,ok.frf⟩
theorem Cx.Ok.unwish {X:Cx}{E:Value→Shared→Prop} (ok:(X.wish E).Ok):X.Ok:=
 ⟨ok.mod,ok.kind,ok.glob,ok.blt,ok.above,ok.inj,ok.has,ok.cab,ok.hd,ok.frames,ok.stk,ok.exf,ok.bs,ok.bsz,ok.noex,ok.exfs,ok.funs,ok.frf⟩
section
variable {X:Cx}{pins:List (Addr×Obj)}{σ:St}{H:Hp}{s:Shared}{E:Value→Shared→Prop}
theorem Inv.wish (I:Inv X pins σ H s) (E:Value→Shared→Prop):Inv (X.wish E) pins σ H s:=⟨I.ok.wish E,I.os,I.bare,I.base,I.loc,I.cell,I.free,I.freeC,I.pin,I.hok,I.len⟩
theorem Inv.unwish (I:Inv (X.wish E) pins σ H s):Inv X pins σ H s:=⟨I.ok.unwish,I.os,I.bare,I.base,I.loc,I.cell,I.free,I.freeC,I.pin,I.hok,I.len⟩
theorem SP.unwish {D:y4w}{f:Flow}{s':Shared} (h:SP (X.wish E) pins D f s'):SP X pins D f s':=by
 cases f with
 |next=>obtain⟨σ',H',I,q⟩:=h;exact⟨σ',H',I.unwish,q⟩
 |brk=>obtain⟨σ',H',I,q⟩:=h;exact⟨σ',H',I.unwish,q⟩
 |cont=>obtain⟨σ',H',I,q⟩:=h;exact⟨σ',H',I.unwish,q⟩
 |ret u=>obtain⟨v,σ',H',I,r,q⟩:=h;exact⟨v,σ',H',I.unwish,r,q⟩
theorem PSs.nox {st:List Stmt}{t:TS} (h:PSs X.nox st t):PSs X st t:=fun pins s σ H D I hw=>
 wpAny_mono (h pins s σ H D (I.wish _) hw) (fun _ _ q=>q.unwish) fun _ _ z=>False.elim z
end
section
variable {X:Cx}{st:Stmt}{rest:List Stmt}{t u:TS}{e:Expr}{te:TE}{pos:Pos}
def tNext:TS:=fun D σ H=>D.nx σ H
def tSeq (t u:TS):TS:=fun D σ H=>t {D with nx:=u D} σ H
theorem z0y:PSs X [] tNext:=fun _ _ σ H _ I h=>wpAny_execs_nil ⟨σ,H,I,h⟩
theorem z0b (h1:PS X st t) (h2:PSs X rest u):PSs X (st::rest) (tSeq t u):=by
 intro pins s σ H D I h
 refine wpAny_execs_cons (thn (h1 pins s σ H {D with nx:=u D} I h) fun f s1 q=>?_)
 cases f with
 |next=>
  obtain⟨σ',H',I',q⟩:=q
  exact h2 pins s1 σ' H' D I' q
 |ret v=>exact q
 |brk=>exact q
 |cont=>exact q
theorem z0e (h1:PS X st t):PSs X [st] t:=by
 intro pins s σ H D I h
 refine wpAny_execs_cons (thn (h1 pins s σ H D I h) fun f s1 q=>?_)
 cases f with
 |next=>exact wpAny_execs_nil q
 |ret v=>exact q
 |brk=>exact q
 |cont=>exact q
theorem Inv.quiet {pins:List (Addr×Obj)}{σ:St}{H:Hp}{s:Shared} (I:Inv X pins σ H s):interactive X.env=false:=by simp[interactive,I.ok.kind]
def tDrop (te:TE):TS:=fun D σ H=>te σ H fun _ H1=>D.nx σ H1
theorem z1o (he:PE X e te) (hs:swapsWith e none pos.line X.env=pure false:=by rfl):PS X (.Expr e pos) (tDrop te):=by
 intro pins s σ H D I h
 exact wpAny_Expr_any (thn (he pins s σ H _ I h) fun v s1 ⟨x,H1,I1,r1,q1⟩=>⟨σ,H1,I1,q1⟩) I.quiet hs
def tRet (te:TE):TS:=fun D σ H=>te σ H D.rt
theorem z0o (he:PE X e te):PS X (.Return (some e) pos) (tRet te):=by
 intro pins s σ H D I h
 exact wpAny_Return_some (thn (he pins s σ H _ I h) fun v s1 ⟨x,H1,I1,r1,q1⟩=>⟨x,σ,H1,I1,r1,q1⟩)
def tIfS (c:TT) (t u:TS):TS:=fun D σ H=>c σ H fun b H1=>if b=true then t D σ H1 else u D σ H1
theorem z0J {c:Expr}{a b:List Stmt}{tc:TT} (hc:PT X c tc) (ha:PSs X a t) (hb:PSs X b u):PS X (.If c a b pos) (tIfS tc t u):=by
 intro pins s σ H D I h
 refine wpAny_If (thn (hc pins s σ H _ I h) fun d s1 ⟨H1,I1,q1⟩=>?_)
 cases d with
 |true=>exact ha pins s1 σ H1 D I1 q1
 |false=>exact hb pins s1 σ H1 D I1 q1
def y5W:TS:=fun _ _ _=>False
theorem z3c:PS X st y5W:=fun _ _ _ _ _ _ h=>h.elim
end
abbrev TG:=V→St→Hp→(St→Hp→Prop)→Prop
abbrev TGs:=List V→St→Hp→(St→Hp→Prop)→Prop
def PG (X:Cx) (target:Expr) (t:TG):Prop:=
 ∀(pins:List (Addr×Obj)) (s:Shared) (σ:St) (H:Hp) (v:V) (u:Value) (Q:St→Hp→Prop),Inv X pins σ H s→RelV v u→t v σ H Q→
  wpAny (model X.prog X.w) X.A (assign target X.env u) (fun _ s'=>∃σ' H',Inv X pins σ' H' s'∧Q σ' H') X.xe s
def PGs (X:Cx) (ts:List Expr) (t:TGs):Prop:=
 ∀(pins:List (Addr×Obj)) (s:Shared) (σ:St) (H:Hp) (vs:List V) (us:List Value) (Q:St→Hp→Prop),Inv X pins σ H s→Vals vs us→t vs σ H Q→
  wpAny (model X.prog X.w) X.A (assignInOrder ((assignEach ts X.env).map (·.2)) us) (fun _ s'=>∃σ' H',Inv X pins σ' H' s'∧Q σ' H') X.xe s
abbrev TSet:=V→V→V→Hp→(Hp→Prop)→Prop
def PSet (X:Cx) (t:TSet):Prop:=
 ∀(pins:List (Addr×Obj)) (s:Shared) (σ:St) (H:Hp) (o i v:V) (ov iv u:Value) (Q:Hp→Prop),Inv X pins σ H s→RelV o ov→RelV i iv→RelV v u→t o i v H Q→
  wpAny (model X.prog X.w) X.A (setItem ov iv u) (fun _ s'=>∃H',Inv X pins σ H' s'∧Q H') X.xe s
section
variable {X:Cx}{pos:Pos}
def z9X (i:Nat):TG:=fun v σ H Q=>Q (σ.set i (some v)) H
theorem z0k {i:Nat}{x:Str} (hN:X.N.Nodup) (hi:X.N[i]? =some x) (hx:Loc X.env.scope x) (hf:X.fn x=true∨X.env.scope.names.lookup x=some .local :=by first|exact .inl rfl|exact .inr rfl|assumption):PG X (.Name x pos) (z9X i):=by
 intro pins s σ H v u Q I r h
 exact wpAny_assign_Name (z3J I hN hi hx r (fun s' I'=>⟨_,H,I',h⟩) hf)
def gNil:TGs:=fun vs σ H Q=>vs=[]∧Q σ H
def gCons (t:TG) (u:TGs):TGs:=fun vs σ H Q=>∃v r,vs=v::r∧t v σ H fun σ' H'=>u r σ' H' Q
theorem z0R:PGs X [] gNil:=by
 intro pins s σ H vs us Q I r h
 obtain⟨e,h⟩:=h
 subst e
 cases r
 exact assignInOrder_nil ⟨σ,H,I,h⟩
theorem z0u {e:Expr}{es:List Expr}{t:TG}{u:TGs} (h1:PG X e t) (h2:PGs X es u)
 (hs:(assignEach (e::es) X.env).map (·.2)=assign e X.env::(assignEach es X.env).map (·.2):=by rfl):PGs X (e::es) (gCons t u):=by
 intro pins s σ H vs us Q I r h
 obtain⟨v,vr,e1,h⟩:=h
 subst e1
 cases r with
 |cons r rr=>
  rw[hs]
  refine assignInOrder_cons (thn (h1 pins s σ H _ _ _ I r h) fun _ s1 ⟨σ1,H1,I1,q1⟩=>?_)
  exact h2 pins s1 σ1 H1 _ _ Q I1 rr q1
def gTup (K:PySem.W.Frag) (n:Nat) (t:TGs):TG:=fun v σ H Q=>∃a xs,v= .ref a∧SqT K H a xs∧xs.length=n∧t xs σ H Q
theorem y6o {es:List Expr}{k:Nat}{t:TGs}{n:Nat} (hc:X.calm=true) (h:PGs X es t)
 (hn:(assignEach es X.env).length =n:=by rfl) (hst:(assignEach es X.env).findIdx? (·.1)=none:=by rfl):PG X (.Tuple es k pos) (gTup X.K n t):=by
 intro pins s σ H v u Q I r hw
 obtain⟨a,xs,e1,hq,hl,hw⟩:=hw
 subst e1
 cases r
 obtain⟨its,rv,ht,hz⟩:=I.tuple hq
 refine assign_Tuple_tuple (I.ok.hd hc) ht (by simp[hn,←hl,rv.length]) hst fun h' hx=>?_
 have I1:Inv X pins σ H {s with heap:=h'}:=I.kept (t':=s.toks) fun b o e=>hx b o (q0w (q0q e)) e
 exact h pins _ σ H xs _ Q I1 (by simpa using rv) hw
def gSub (to ti:TE) (t:TSet):TG:=fun v σ H Q=>to σ H fun o H1=>ti σ H1 fun i H2=>t o i v H2 fun H3=>Q σ H3
theorem y1h {o i:Expr}{to ti:TE}{t:TSet} (ho:PE X o to) (hi:PE X i ti) (hs:PSet X t)
 (ha:∀v,assign (.Subscript o i pos) X.env v=(do
  let ov ←holding [v] (eval o X.env)
  let iv ←holding [v,ov] (eval i X.env)
  standAt pos
  holding [v,ov,iv] (setItem ov iv v)
  release [v,ov,iv] []):=by intro _;rfl):PG X (.Subscript o i pos) (gSub to ti t):=by
 intro pins s σ H v u Q I r h
 rw[ha]
 refine wpAny_bind (wpAny_holding (thn (ho pins s σ H _ I h) fun ov s1 ⟨x,H1,I1,r1,q1⟩=>?_))
 refine wpAny_bind (wpAny_holding (thn (hi pins s1 σ H1 _ I1 q1) fun iv s2 ⟨y,H2,I2,r2,q2⟩=>?_))
 refine wpAny_bind (wpAny_standAt (wpAny_bind (wpAny_holding (thn (hs pins s2 σ H2 x y v ov iv u _ I2 r1 r2 r q2) fun _ s3 ⟨H3,I3,q3⟩=>?_))))
 exact wpAny_release ⟨σ,H3,I3,q3⟩
def tAsg (te:TE) (g:TG):TS:=fun D σ H=>te σ H fun x H1=>g x σ H1 D.nx
theorem y1e {tg e:Expr}{te:TE}{g:TG} (he:PE X e te) (hg:PG X tg g) (hs:swapsWithSole [tg] e pos.line X.env=pure false:=by rfl) (hw:swappedStores [tg] e X.env=pure none:=by rfl)
 (h1:(assignEach [tg] X.env).map (·.2)=[assign tg X.env]:=by rfl):PS X (.Assign [tg] e pos) (tAsg te g):=by
 intro pins s σ H D I h
 refine wpAny_Assign_stores (thn (he pins s σ H _ I h) fun v s1 ⟨x,H1,I1,r1,q1⟩=>?_) hs hw
 rw[h1]
 exact thn (hg pins s1 σ H1 x v _ I1 r1 q1) fun _ s2 q=>q
theorem z0p {i:Nat}{x:Str}{e:Expr}{te:TE}{pos':Pos} (hN:X.N.Nodup) (hi:X.N[i]? =some x) (hx:Loc X.env.scope x) (he:PE X e te) (hs:swapsWith e (some (.Name x pos')) pos.line X.env=pure false:=by rfl) (hf:X.fn x=true∨X.env.scope.names.lookup x=some .local :=by first|exact .inl rfl|exact .inr rfl|assumption):
 PS X (.Assign [.Name x pos'] e pos) (tAsg te (z9X i)):=by
 intro pins s σ H D I h
 refine wpAny_Assign_Name (thn (he pins s σ H _ I h) fun v s1 ⟨y,H1,I1,r1,q1⟩=>?_) hs
 exact z3J I1 hN hi hx r1 (fun s2 I2=>⟨_,H1,I2,q1⟩) hf
def tPar (i j:Nat) (ta:TA):TS:=fun D σ H=>ta σ H fun vs H1=>∃v w,vs=[v,w]∧D.nx ((σ.set i (some v)).set j (some w)) H1
theorem y6k {i j:Nat}{x y:Str}{a b:Expr}{ta:TA}{px py pt:Pos} {kt k2 pt2} (hc:X.calm=true) (hN:X.N.Nodup) (hi:X.N[i]? =some x) (hj:X.N[j]? =some y) (hij:i≠j)
 (hx:X.env.scope.names.lookup x=some .local) (hy:X.env.scope.names.lookup y=some .local) (ha:PA X [a,b] ta)
 (hw:swappedStores [.Tuple [.Name x px,.Name y py] kt pt] (.Tuple [a,b] k2 pt2) X.env=pure (some [x,y]))
 (hs:swapsWithSole [.Tuple [.Name x px,.Name y py] kt pt] (.Tuple [a,b] k2 pt2) pos.line X.env=pure false:=by rfl):
 PS X (.Assign [.Tuple [.Name x px,.Name y py] kt pt] (.Tuple [a,b] k2 pt2) pos) (tPar i j ta):=by
 intro pins s σ H D I h
 rw[exec_Assign_arm]
 refine wpAny_bind (wpAny_standAt ?_)
 rw[hs]
 refine wpAny_bind (wpAny_pure ?_)
 rw[if_neg (by decide)]
 refine wpAny_bind (Tuple_ (thn (ha _ pins s σ H _ I h) fun us s1 ⟨vs,H1,I1,r1,q1⟩=>?_))
 obtain⟨v,w,e1,q1⟩:=q1
 subst e1
 obtain⟨u1,u2,rfl,rv,rw'⟩:∃u1 u2,us=[u1,u2]∧RelV v u1∧RelV w u2:=by
  cases r1 with
  |cons p q=>
   cases q with
   |cons p' q'=>
    cases q'
    exact⟨_,_,rfl,p,p'⟩
 refine wpAny_newObj_type ?_ (by show 2≤sizeLine;decide)
 have I2:Inv X pins σ H1 {s1 with heap:=s1.heap.push {cls:= .type "tuple",data:= .seq [u1,u2].toArray}}:=I1.kept (t':=s1.toks) fun b o e=>q0d _ e
 rw[hw]
 refine wpAny_bind (wpAny_pure ?_)
 show wpAny (model X.prog X.w) X.A (do rule "assign.swapped-stores";let items ←unpackItems (.ref s1.heap.objs.size) 2 none;assignInOrder [fun v=>bindName X.env y v,fun v=>bindName X.env x v] items.reverse;pure Flow.next) _ _ _
 refine wpAny_bind (wpAny_rule (wpAny_bind (unpackItems_tuple (items:= #[u1,u2]) (I.ok.hd hc) (IsTup.new s1.heap _) fun h' hx'=>?_)))
 have I3:=I2.kept (h':=h') (t':=s1.toks) fun b o e=>hx' b o (q0w (q0q e)) e
 show wpAny _ _ (assignInOrder [fun v=>bindName X.env y v,fun v=>bindName X.env x v] [u2,u1]>>= fun _=>pure Flow.next) _ _ _
 refine wpAny_bind (assignInOrder_cons (wpAny_bindName (z3J I3 hN hj (.inl hy) rw' (fun s2 I4=>?_) (.inr hy))))
 refine assignInOrder_cons (wpAny_bindName (z3J I4 hN hi (.inl hx) rv (fun s3 I5=>assignInOrder_nil (wpAny_pure ?_)) (.inr hx)))
 rw[List.set_comm _ _ (Ne.symm hij)] at I5
 exact⟨_,H1,I5,q1⟩
end
section
variable {X:Cx}{pos:Pos}
def y3W (c:TT) (tb:TS):TS:=fun D σ H=>∃W:Nat→St→Hp→Prop,(∃m,W m σ H)∧∀m σ H,W m σ H→
 c σ H fun b H1=>if b=true then ∃N:St→Hp→Prop,(∀σ' H',N σ' H'→∃m',m'<m∧W m' σ' H')∧tb {D with nx:=N,ct:=N,bk:=D.nx} σ H1 else D.nx σ H1
theorem z8I {c:Expr}{body:List Stmt}{tc:TT}{tb:TS} (hp:PassesOwn (model X.prog X.w) X.A X.env X.xe) (hc:PT X c tc) (hb:PSs X body tb):PS X (.While c body [] pos) (y3W tc tb):=by
 intro pins s σ H D I h
 obtain⟨W,⟨m0,w0⟩,turn⟩:=h
 refine wpAny_While (codeAny_whileLoop (fun n s'=>∃σ' H',Inv X pins σ' H' s'∧W n σ' H') ?_ m0 ⟨σ,H,I,w0⟩)
 rintro n s1 ⟨σ1,H1,I1,w1⟩
 refine wpAny_passesOwn hp (thn (hc pins s1 σ1 H1 _ I1 (turn n σ1 H1 w1)) fun b s2 ⟨H2,I2,q2⟩=>?_)
 cases b with
 |true=>
  obtain⟨N,hN,q2⟩:=q2
  rw[if_pos rfl]
  refine wpAny_passesOwn hp (thn (hb pins s2 σ1 H2 _ I2 q2) fun f s3 q3=>?_)
  cases f with
  |next=>
   obtain⟨σ3,H3,I3,n3⟩:=q3
   obtain⟨m',hm,w3⟩:=hN σ3 H3 n3
   exact⟨m',hm,σ3,H3,I3,w3⟩
  |cont=>
   obtain⟨σ3,H3,I3,n3⟩:=q3
   obtain⟨m',hm,w3⟩:=hN σ3 H3 n3
   exact⟨m',hm,σ3,H3,I3,w3⟩
  |brk=>exact q3
  |ret v=>exact q3
 |false=>
  rw[if_neg q0z]
  exact wpAny_execs_nil ⟨σ1,H2,I2,q2⟩
end
structure It where
 go:Nat→Hp→Prop
 yld:Nat→Hp→V→Hp→Prop
 stop:Nat→Hp→Prop
def y2C (X:Cx) (pins:List (Addr×Obj)) (H:Hp) (b:Addr):Prop:=
 H b=none∧b≠X.env.locals∧b∉X.fs∧(b∈X.ex∨X.s₀.heap.objs.size≤b)∧(∀x c,X.env.cells.lookup x=some c→c≠b)∧∀p∈X.pn++pins,p.1≠b
theorem Inv.fpOk {X:Cx}{pins:List (Addr×Obj)}{σ:St}{H H':Hp}{s:Shared}{b:Addr} (I:Inv X pins σ H s) (hb:s.heap.objs.size≤b) (hn:H' b=none):y2C X pins H' b:=by
 refine⟨hn,Nat.ne_of_gt (q0N I.lt hb),I.nofs hb,.inr (q0p I.sz hb),fun x c e z=>?_,fun p hp z=>?_⟩
 ·obtain⟨v,q⟩:=I.cell x c e
  exact absurd (q0N q.lt (by rw[z];exact hb)) (Nat.lt_irrefl _)
 ·exact absurd (q0N (q0q (I.pin p hp).1) (by rw[z];exact hb)) (Nat.lt_irrefl _)
structure y5M (P:Program) (w:World) (K:PySem.W.Frag) (tg:Expr) (J:It) (fp:List Addr) (it:Addr) (tn:Nat→Heap→Prop):Prop where
 mem:it∈fp
 obj:∀i h,tn i h→∀b∈fp,∃o,h.get? b=some o∧∀v,o.data≠ .cell v
 keep:∀i h h',tn i h→(∀b∈fp,∀o,h.get? b=some o→h'.get? b=some o)→tn i h'
 item:∀(X:Cx),X.prog=P→X.w=w→X.K=K→X.calm=true→∀(i:Nat) (pins:List (Addr×Obj)) (s:Shared) (σ:St) (H:Hp) (E:Value→Shared→Prop),Inv X pins σ H s→(∀b∈fp,y2C X pins H b)→tn i s.heap→J.go i H→
  wpAny (model P w) X.A (pyNext (.ref it)) (fun r s1=>∃u,r=some u∧
   wpAny (model P w) X.A (letOwnedTupleGo tg (.ref it) u) (fun _ s2=>∃x H',Inv X pins σ H' s2∧RelV x u∧J.yld i H x H'∧tn (i+1) s2.heap∧∀b∈fp,H' b=none) E s1) E s
 done:∀(X:Cx),X.prog=P→X.w=w→X.K=K→X.calm=true→∀(i:Nat) (pins:List (Addr×Obj)) (s:Shared) (σ:St) (H:Hp) (E:Value→Shared→Prop),Inv X pins σ H s→(∀b∈fp,y2C X pins H b)→tn i s.heap→J.stop i H→
  wpAny (model P w) X.A (pyNext (.ref it)) (fun r s1=>r=none∧Inv X pins σ H s1) E s
 self:∀(A:Around) (i:Nat) (s:Shared) (Q:Value→Shared→Prop) (E:Value→Shared→Prop),tn i s.heap→Q (.ref it) s→wpAny (model P w) A (pyIter (.ref it)) Q E s
abbrev TI:=St→Hp→(It→Hp→Prop)→Prop
def PIE (X:Cx) (pins:List (Addr×Obj)) (σ:St) (tg:Expr) (R:It→Hp→Prop) (itv:Value) (s2:Shared):Prop:=
 ∃(it:Addr) (fp:List Addr) (tn:Nat→Heap→Prop) (J:It) (H':Hp),itv= .ref it∧Inv X pins σ H' s2∧y5M X.prog X.w X.K tg J fp it tn∧tn 0 s2.heap∧(∀b∈fp,y2C X pins H' b)∧R J H'
def PI (X:Cx) (tg iter:Expr) (wi:TI):Prop:=
 ∀(pins:List (Addr×Obj)) (s:Shared) (σ:St) (H:Hp) (R:It→Hp→Prop),Inv X pins σ H s→wi σ H R→
  wpAny (model X.prog X.w) X.A (eval iter X.env) (fun v s1=>wpAny (model X.prog X.w) X.A (pyIter v) (PIE X pins σ tg R) X.xe s1) X.xe s
theorem y5u {M:Model}{A:Around}{E:Value→Shared→Prop}{s:Shared}{tg:Expr}{it:Addr}{u:Value}{o:Obj}{n:String}{vs:Array Value}{Q:Unit→Shared→Prop} (ho:s.heap.get? it=some o) (hc:o.cls= .type n) (hd:o.data= .fields vs)
 (hn:["enumerate","zip","dict_itemiterator","dict_reverseitemiterator","odict_iterator","itertools.zip_longest","itertools.pairwise"].contains n=false) (hQ:Q () s):wpAny M A (letOwnedTupleGo tg (.ref it) u) Q E s:=by
 unfold letOwnedTupleGo
 cases tg<;>first
  |exact wpAny_pure hQ
  |(cases u<;>first
       |exact wpAny_pure hQ
       |(refine wpAny_bind (wpAny_load ho ?_)
         rw[hc,hd]
         show wpAny M A (if (["enumerate","zip","dict_itemiterator","dict_reverseitemiterator","odict_iterator","itertools.zip_longest","itertools.pairwise"].contains n&&vs[0]? ==some (rawInt _))=true then _ else _) Q E s
         rw[if_neg (by intro h;rw[hn,Bool.false_and] at h;cases h)]
         exact wpAny_pure hQ))
def Itl (K:PySem.W.Frag) (a:Addr):It:=
 ⟨fun i H=>∃xs x,SqL K H a xs∧xs[i]? =some x,fun i H x H'=>H'=H∧∀xs,SqL K H a xs→xs[i]? =some x,fun i H=>∃xs,SqL K H a xs∧xs.length≤i⟩
def Itt (K:PySem.W.Frag) (a:Addr):It:=
 ⟨fun i H=>∃xs x,SqT K H a xs∧xs[i]? =some x,fun i H x H'=>H'=H∧∀xs,SqT K H a xs→xs[i]? =some x,fun i H=>∃xs,SqT K H a xs∧xs.length≤i⟩
def Itr (lo:Int) (n:Nat):It:=⟨fun i _=>i<n,fun i H x H'=>H'=H∧x= .int (lo+i),fun i _=>n≤i⟩
theorem z6v {P:Program}{w:World}{K:PySem.W.Frag}{tg:Expr} (a it:Addr):y5M P w K tg (Itl K a) [it] it (fun i h=>h.IsListIter it a i) where
 mem:=by simp
 obj:=fun i h st b hb=>by
  have e:b=it:=by simpa using hb
  subst e
  obtain⟨o,e,c,d⟩:=st
  exact⟨o,e,fun v z=>by rw[d] at z;cases z⟩
 keep:=fun i h h' st k=>st.at fun o e=>k it (by simp) o e
 item:=by
  intro X hP hw hK hc i pins s σ H E I hf st hg
  subst hP hw hK
  obtain⟨xs,x,hq,hx⟩:=hg
  obtain⟨its,rv,p,hz⟩:=I.list hq
  obtain⟨u,hu,ru⟩:=rv.get hx
  obtain⟨f0,f1,f2,f3,f4,f5⟩:=hf it (by simp)
  refine wpAny_pyNext_list_item st p.isList (x:=u) (by simpa using hu) fun h' st' sb=>?_
  have I1:Inv X pins σ H {s with heap:=h'}:=I.turned (t':=s.toks) (fun b o hb e=>(sb.2 b hb).trans e) f0 f1 f3 f4 f5
  obtain⟨o,e,c,d⟩:=id st'
  exact⟨u,rfl,y5u (s:={s with heap:=h'}) e c d (by decide) ⟨x,H,I1,ru,⟨rfl,fun ys hy=>by rw[I.list_inj hy hq];exact hx⟩,st',fun b hb=>(hf b hb).1⟩⟩
 done:=by
  intro X hP hw hK hc i pins s σ H E I hf st hg
  subst hP hw hK
  obtain⟨xs,hq,hx⟩:=hg
  obtain⟨its,rv,p,hz⟩:=I.list hq
  obtain⟨f0,f1,f2,f3,f4,f5⟩:=hf it (by simp)
  have hl:=rv.length
  exact wpAny_pyNext_list_end (I.ok.hd hc) st p.isList (by simp;lia) fun h' eb=>⟨rfl,I.turned (t':=s.toks) (fun b o hb e=>eb b o hb e) f0 f1 f3 f4 f5⟩
 self:=fun _ _ _ _ _ st h=>wpAny_pyIter_listiter st h
theorem z4X {P:Program}{w:World}{K:PySem.W.Frag}{tg:Expr} (a it:Addr):y5M P w K tg (Itt K a) [it] it (fun i h=>h.IsTupleIter it a i) where
 mem:=by simp
 obj:=fun i h st b hb=>by
  have e:b=it:=by simpa using hb
  subst e
  obtain⟨o,e,c,d⟩:=st
  exact⟨o,e,fun v z=>by rw[d] at z;cases z⟩
 keep:=fun i h h' st k=>st.at fun o e=>k it (by simp) o e
 item:=by
  intro X hP hw hK hc i pins s σ H E I hf st hg
  subst hP hw hK
  obtain⟨xs,x,hq,hx⟩:=hg
  obtain⟨its,rv,p,hz⟩:=I.tuple hq
  obtain⟨u,hu,ru⟩:=rv.get hx
  obtain⟨f0,f1,f2,f3,f4,f5⟩:=hf it (by simp)
  refine wpAny_pyNext_tuple_item st (show s.heap.IsTuple a its.toArray from p) (x:=u) (by simpa using hu) fun h' st' sb=>?_
  have I1:Inv X pins σ H {s with heap:=h'}:=I.turned (t':=s.toks) (fun b o hb e=>(sb.2 b hb).trans e) f0 f1 f3 f4 f5
  obtain⟨o,e,c,d⟩:=id st'
  exact⟨u,rfl,y5u (s:={s with heap:=h'}) e c d (by decide) ⟨x,H,I1,ru,⟨rfl,fun ys hy=>by rw[I.tuple_inj hy hq];exact hx⟩,st',fun b hb=>(hf b hb).1⟩⟩
 done:=by
  intro X hP hw hK hc i pins s σ H E I hf st hg
  subst hP hw hK
  obtain⟨xs,hq,hx⟩:=hg
  obtain⟨its,rv,p,hz⟩:=I.tuple hq
  obtain⟨f0,f1,f2,f3,f4,f5⟩:=hf it (by simp)
  have hl:=rv.length
  exact wpAny_pyNext_tuple_end (I.ok.hd hc) st (show s.heap.IsTuple a its.toArray from p) (by simp;lia) fun h' eb=>⟨rfl,I.turned (t':=s.toks) (fun b o hb e=>eb b o hb e) f0 f1 f3 f4 f5⟩
 self:=fun _ _ _ _ _ st h=>wpAny_pyIter_tupleiter st h
theorem z9o {P:Program}{w:World}{K:PySem.W.Frag}{tg:Expr} (it:Addr) (lo:Int) (n:Nat):y5M P w K tg (Itr lo n) [it] it (fun i h=>IsRangeIter h it (lo+(i:Nat)*1) ((n:Int) - (i:Nat)) 1) where
 mem:=by simp
 obj:=fun i h st b hb=>by
  have e:b=it:=by simpa using hb
  subst e
  exact⟨_,st,fun v z=>by
    have z':Data.fields _=Data.cell v:=z
    cases z'⟩
 keep:=fun i h h' st k=>k it (by simp) _ st
 item:=by
  intro X hP hw hK hc i pins s σ H E I hf st hg
  subst hP hw hK
  obtain⟨f0,f1,f2,f3,f4,f5⟩:=hf it (by simp)
  have W:=Walks.range (prog:=X.prog) (w:=X.w) (I.ok.hd hc) it lo 1 n
  refine W.item i s _ _ hg st fun v h' tk hv st' kk=>?_
  obtain⟨t,rfl⟩:=hv
  have I1:Inv X pins σ H {s with heap:=h',toks:=tk}:=I.turned (fun b o hb e=>kk b o (by simpa using hb) e) f0 f1 f3 f4 f5
  refine⟨_,rfl,y5u (s:={s with heap:=h',toks:=tk}) (n:="range_iterator") st' rfl rfl (by decide) ⟨.int (lo+i),H,I1,⟨t,?_⟩,⟨rfl,rfl⟩,st',fun b hb=>(hf b hb).1⟩⟩
  rw[Int.mul_one]
 done:=by
  intro X hP hw hK hc i pins s σ H E I hf st hg
  subst hP hw hK
  obtain⟨f0,f1,f2,f3,f4,f5⟩:=hf it (by simp)
  exact wpAny_pyNext_range_end (I.ok.hd hc) st (by have:n≤i:=hg;lia) fun h' eb=>⟨rfl,I.turned (t':=s.toks) (fun b o hb e=>eb b o hb e) f0 f1 f3 f4 f5⟩
 self:=fun _ _ _ _ _ st h=>wpAny_pyIter_rangeiter st h
end L2
namespace L2
open PySem PySem.Spec PyProof.Rows
section
variable {X:Cx}{tg:Expr}
def y6N (K:PySem.W.Frag) (tl:TE):TI:=fun σ H R=>tl σ H fun x H1=>∃a,x= .ref a∧(∃xs,SqL K H1 a xs)∧R (Itl K a) H1
def iTup (K:PySem.W.Frag) (tl:TE):TI:=fun σ H R=>tl σ H fun x H1=>∃a,x= .ref a∧(∃xs,SqT K H1 a xs)∧R (Itt K a) H1
theorem y4S {l:Expr}{tl:TE} (hl:PE X l tl):PI X tg l (y6N X.K tl):=by
 intro pins s σ H R I h
 refine thn (hl pins s σ H _ I h) fun v s1 ⟨x,H1,I1,r1,q1⟩=>?_
 obtain⟨a,e,⟨xs,hq⟩,q⟩:=q1
 subst e
 cases r1
 obtain⟨its,rv,p,hz⟩:=I1.list hq
 refine wpAny_pyIter_list p.isList ?_
 refine⟨s1.heap.objs.size,[s1.heap.objs.size],_,_,H1,rfl,I1.kept (t':=s1.toks) fun b o e=>q0d _ e,z6v a _,⟨_,q0s _ rfl,rfl,rfl⟩,fun b hb=>?_,q⟩
 have e:b=s1.heap.objs.size:=by simpa using hb
 subst e
 exact I1.fpOk (q0j _) (I1.hok.fresh (q0j _))
theorem y6n {l:Expr}{tl:TE} (hl:PE X l tl):PI X tg l (iTup X.K tl):=by
 intro pins s σ H R I h
 refine thn (hl pins s σ H _ I h) fun v s1 ⟨x,H1,I1,r1,q1⟩=>?_
 obtain⟨a,e,⟨xs,hq⟩,q⟩:=q1
 subst e
 cases r1
 obtain⟨its,rv,p,hz⟩:=I1.tuple hq
 refine wpAny_pyIter_tuple (show s1.heap.IsTuple a its.toArray from p) ?_
 refine⟨s1.heap.objs.size,[s1.heap.objs.size],_,_,H1,rfl,I1.kept (t':=s1.toks) fun b o e=>q0d _ e,z4X a _,⟨_,q0s _ rfl,rfl,rfl⟩,fun b hb=>?_,q⟩
 have e:b=s1.heap.objs.size:=by simpa using hb
 subst e
 exact I1.fpOk (q0j _) (I1.hok.fresh (q0j _))
theorem y2Y {pins:List (Addr×Obj)}{σ:St}{H:Hp}{s:Shared}{R:It→Hp→Prop}{E:Value→Shared→Prop}{lo hi:Int}{t u v:Tok}{tk:Nat} (I:Inv X pins σ H s) (h1: -(2^62)≤lo) (h2:lo<2^62) (h3: -(2^62)≤hi) (h4:hi<2^62)
 (q:R (Itr lo (hi - lo).toNat) H):wpAny (model X.prog X.w) X.A (pyIter (.ref s.heap.objs.size)) (PIE X pins σ tg R) E {s with heap:=s.heap.push {cls:= .type "range",data:= .fields #[.int lo t,.int hi u,.int 1 v]},toks:=tk}:=by
 refine wpAny_pyIter_range (IsRange.new ..) (small_one h1 h2 h3 h4) ?_
 have I1:Inv X pins σ H {s with heap:=s.heap.push {cls:= .type "range",data:= .fields #[.int lo t,.int hi u,.int 1 v]},toks:=tk}:=I.kept fun b o e=>q0d _ e
 refine⟨(s.heap.push {cls:= .type "range",data:= .fields #[.int lo t,.int hi u,.int 1 v]}).objs.size,[(s.heap.push {cls:= .type "range",data:= .fields #[.int lo t,.int hi u,.int 1 v]}).objs.size],_,_,H,rfl,
  I1.kept (t':=tk) fun b o e=>q0d _ e,z9o _ lo (hi - lo).toNat,?_,fun b hb=>?_,q⟩
 ·have e1:lo+((0:Nat):Int)*1=lo:=by simp
  have e2:(((hi - lo).toNat :Nat):Int) - ((0:Nat):Int)=Builtin.Range.rangeSize lo hi 1:=by rw[rangeSize_one];split<;>lia
  show IsRangeIter _ _ (lo+((0:Nat):Int)*1) ((((hi - lo).toNat :Nat):Int) - ((0:Nat):Int)) 1
  rw[e1,e2]
  exact q0s _ rfl
 ·have e:b=(s.heap.push {cls:= .type "range",data:= .fields #[.int lo t,.int hi u,.int 1 v]}).objs.size :=by simpa using hb
  subst e
  exact I1.fpOk (q0j _) (I1.hok.fresh (q0j _))
def iRng1 (ta:TA):TI:=fun σ H R=>ta σ H fun vs H1=>∃j:Int,vs=[.int j]∧ -(2^62)≤j∧j<2^62∧R (Itr 0 j.toNat) H1
theorem z1y {a:Expr}{ta:TA}{p pos:Pos} (hg:Gl X "range") (hm:X.mg "range"=none) (ha:PA X [a] ta) (hs:starEach [a] X.env=[(false,eval a X.env)]:=by rfl):PI X tg (.Call (.Name "range" p) [a] [] pos) (iRng1 ta):=by
 intro pins s σ H R I h
 refine Call_ (z3D I hg hm boot_range (PyProof.Rows.callWith_type1 (thn (ha pos pins s σ H _ I h) fun us s1 ⟨vs,H1,I1,r1,q1⟩=>?_) hs rfl))
 obtain⟨j,e,q1,q2,q⟩:=q1
 subst e
 cases r1 with
 |cons r rr=>
  cases rr
  obtain⟨t,rfl⟩:=r
  exact call_range_1 (y2Y I1 (by lia) (by lia) q1 q2 (by simpa using q))
def tFor (wi:TI) (g:TG) (tb:TS):TS:=fun D σ H=>wi σ H fun J H1=>∃W:Nat→Nat→St→Hp→Prop,(∃m,W 0 m σ H1)∧∀i m σ H,W i m σ H→
 (J.stop i H∧D.nx σ H)∨(J.go i H∧∃N:St→Hp→Prop,(∀σ' H',N σ' H'→∃m',m'<m∧W (i+1) m' σ' H')∧∀x H',J.yld i H x H'→g x σ H' fun σ2 H2=>tb {D with nx:=N,ct:=N,bk:=D.nx} σ2 H2)
def z5f (fp:List Addr) (h:Heap):List (Addr×Obj):=fp.filterMap fun b=>(h.get? b).map fun o=>(b,o)
theorem z1H {fp:List Addr}{h:Heap}{b:Addr}{o:Obj} (hb:b∈fp) (e:h.get? b=some o):(b,o)∈z5f fp h:=List.mem_filterMap.mpr ⟨b,hb,by rw[e];rfl⟩
theorem y1E {fp:List Addr}{h:Heap}{p:Addr×Obj} (hp:p∈z5f fp h):p.1∈fp∧h.get? p.1=some p.2:=by
 obtain⟨b,hb,e⟩:=List.mem_filterMap.mp hp
 cases q:h.get? b with
 |none=>rw[q] at e;cases e
 |some o=>
  rw[q] at e
  have e':(b,o)=p:=Option.some.inj e
  subst e'
  exact⟨hb,q⟩
theorem Inv.pinned {pins:List (Addr×Obj)}{σ:St}{H:Hp}{s:Shared}{fp:List Addr} (I:Inv X pins σ H s) (hf:∀b∈fp,y2C X pins H b) (ho:∀b∈fp,∃o,s.heap.get? b=some o∧∀v,o.data≠ .cell v):Inv X (pins++z5f fp s.heap) σ H s:=
 I.pins_of fun p hp=>(q0H.mp hp).elim (fun z=>I.pin p (q0O _ z)) fun z=>by
  obtain⟨hb,e⟩:=y1E z
  obtain⟨f0,f1,f2,_⟩:=hf p.1 hb
  obtain⟨o,e',d⟩:=ho p.1 hb
  rw[e] at e';cases e'
  exact⟨e,f0,f1,f2,d⟩
theorem Inv.unpinned {pins pl:List (Addr×Obj)}{σ:St}{H:Hp}{s:Shared} (I:Inv X (pins++pl) σ H s):Inv X pins σ H s:=I.pins_of fun p hp=>I.pin p (q0O _ (q0B _ hp))
theorem z0T {iter:Expr}{body:List Stmt}{wi:TI}{g:TG}{tb:TS}{pos:Pos} (hp:PassesOwn (model X.prog X.w) X.A X.env X.xe) (hc:X.calm=true) (hi:PI X tg iter wi) (hg:PG X tg g) (hb:PSs X body tb)
 (hs:∀x,foldedSetIterable iter X.env x=pure x:=by intro _;rfl):PS X (.For tg iter body [] pos) (tFor wi g tb):=by
 intro pins s σ H D I h
 refine wpAny_For (thn (hi pins s σ H _ I h) fun v s1 h1=>thn h1 fun itv s2 h2=>?_) hs
 obtain⟨it,fp,tn,J,H2,e,I2,T,st2,f2,W,⟨m0,w0⟩,turn⟩:=h2
 subst e
 have stat:∀{H':Hp},(∀b∈fp,H' b=none)→∀b∈fp,y2C X pins H' b:=fun hn b hb=>⟨hn b hb,(f2 b hb).2⟩
 refine codeAny_forLoop_any (fun n s'=>∃i σ' H',Inv X pins σ' H' s'∧tn i s'.heap∧(∀b∈fp,H' b=none)∧W i n σ' H') ?_ m0 ⟨0,σ,H2,I2,st2,fun b hb=>(f2 b hb).1,w0⟩
 rintro n s3 ⟨i,σ3,H3,I3,st3,fr3,w3⟩
 rcases turn i n σ3 H3 w3 with⟨stop,qn⟩|⟨go,N,hN,step⟩
 ·refine wpAny_passesOwn hp (thn (T.done X rfl rfl rfl hc i pins s3 σ3 H3 X.xe I3 (stat fr3) st3 stop) fun r s4 ⟨hr,I4⟩=>?_)
  subst hr
  exact wpAny_execs_nil ⟨σ3,H3,I4,qn⟩
 ·refine wpAny_passesOwn hp (thn (T.item X rfl rfl rfl hc i pins s3 σ3 H3 X.xe I3 (stat fr3) st3 go) fun r s4 ⟨u,hr,h4⟩=>?_)
  subst hr
  refine wpAny_passesOwn hp (thn h4 fun _ s5 ⟨x,H5,I5,r5,y5,st5,fr5⟩=>?_)
  have I5':=I5.pinned (stat fr5) (T.obj _ _ st5)
  refine wpAny_passesOwn hp (thn (hg _ s5 σ3 H5 x u _ I5' r5 (step x H5 y5)) fun _ s6 ⟨σ6,H6,I6,q6⟩=>?_)
  refine wpAny_passesOwn hp (thn (hb _ s6 σ6 H6 _ I6 q6) fun f s7 q7=>?_)
  have again:∀{σ7:St}{H7:Hp},Inv X (pins++z5f fp s5.heap) σ7 H7 s7→N σ7 H7→∃m,m<n∧∃i σ' H',Inv X pins σ' H' s7∧tn i s7.heap∧(∀b∈fp,H' b=none)∧W i m σ' H':=fun {σ7 H7} I7 n7=>by
   obtain⟨m',hm,w7⟩:=hN σ7 H7 n7
   refine⟨m',hm,i+1,σ7,H7,I7.unpinned,T.keep _ _ _ st5 fun b hb o e=>(I7.pin (b,o) (q0O _ (q0O _ (z1H hb e)))).1,fun b hb=>?_,w7⟩
   obtain⟨o,e,d⟩:=T.obj _ _ st5 b hb
   exact (I7.pin (b,o) (q0O _ (q0O _ (z1H hb e)))).2.1
  cases f with
  |next=>obtain⟨σ7,H7,I7,n7⟩:=q7;exact again I7 n7
  |cont=>obtain⟨σ7,H7,I7,n7⟩:=q7;exact again I7 n7
  |brk=>obtain⟨σ7,H7,I7,q7⟩:=q7;exact⟨σ7,H7,I7.unpinned,q7⟩
  |ret v=>obtain⟨x7,σ7,H7,I7,r7,q7⟩:=q7;exact⟨x7,σ7,H7,I7.unpinned,r7,q7⟩
end
theorem z8m {c:TT}{tb:TS}{D:y4w}{σ:St}{H:Hp} (Pv:St→Hp→Prop) (μ:St→Hp→Nat) (h0:Pv σ H)
 (hs:∀σ H,Pv σ H→c σ H fun b H1=>if b=true then tb {D with nx:=fun σ' H'=>Pv σ' H'∧μ σ' H'<μ σ H,ct:=fun σ' H'=>Pv σ' H'∧μ σ' H'<μ σ H,bk:=D.nx} σ H1 else D.nx σ H1)
 (mono:∀σ H Q Q',(∀b H1,Q b H1→Q' b H1)→c σ H Q→c σ H Q'):y3W c tb D σ H:=by
 refine⟨fun m σ H=>m=μ σ H∧Pv σ H,⟨_,rfl,h0⟩,?_⟩
 rintro m σ H ⟨rfl,p⟩
 refine mono σ H _ _ (fun b H1 q=>?_) (hs σ H p)
 cases b with
 |true=>exact⟨_,fun σ' H' ⟨p',l⟩=>⟨_,l,rfl,p'⟩,q⟩
 |false=>exact q
end L2
namespace L2
open PySem PySem.Spec PyProof.Rows
abbrev R2:=V→V→Hp→VK→Prop
def OpR (X:Cx) (f:Value→Value→Sem Value) (r:R2):Prop:=
 ∀(pins:List (Addr×Obj)) (s:Shared) (σ:St) (H:Hp) (x y:V) (v u:Value) (Q:VK),Inv X pins σ H s→RelV x v→RelV y u→r x y H Q→
  wpAny (model X.prog X.w) X.A (f v u) (EP X pins σ Q) X.xe s
def UnR (X:Cx) (f:Value→Sem Value) (r:V→Hp→VK→Prop):Prop:=
 ∀(pins:List (Addr×Obj)) (s:Shared) (σ:St) (H:Hp) (x:V) (v:Value) (Q:VK),Inv X pins σ H s→RelV x v→r x H Q→
  wpAny (model X.prog X.w) X.A (f v) (EP X pins σ Q) X.xe s
def z2t (X:Cx) (f:Value) (r:List V→Hp→VK→Prop):Prop:=
 ∀(pins:List (Addr×Obj)) (s:Shared) (σ:St) (H:Hp) (xs:List V) (us:List Value) (Q:VK),Inv X pins σ H s→Vals xs us→r xs H Q→
  wpAny (model X.prog X.w) X.A (call f us) (EP X pins σ Q) X.xe s
def TruR (X:Cx) (r:V→Hp→(Bool→Hp→Prop)→Prop):Prop:=
 ∀(pins:List (Addr×Obj)) (s:Shared) (σ:St) (H:Hp) (x:V) (v:Value) (Q:Bool→Hp→Prop),Inv X pins σ H s→RelV x v→r x H Q→
  wpAny (model X.prog X.w) X.A (truthy v) (TP X pins σ Q) X.xe s
def tOp (r:R2) (ta tb:TE):TE:=fun σ H Q=>ta σ H fun x H1=>tb σ H1 fun y H2=>r x y H2 Q
def tUn (r:V→Hp→VK→Prop) (ta:TE):TE:=fun σ H Q=>ta σ H fun x H1=>r x H1 Q
def rI (C:Int→Int→Prop) (g:Int→Int→V):R2:=fun x y H Q=>∃i j,x= .int i∧y= .int j∧C i j∧Q (g i j) H
def rI0 (g:Int→Int→V):R2:=fun x y H Q=>∃i j,x= .int i∧y= .int j∧Q (g i j) H
def rU (g:Int→V):V→Hp→VK→Prop:=fun x H Q=>∃i,x= .int i∧Q (g i) H
section
variable {X:Cx}{a b c:Expr}{ta tb tc:TE}{pos:Pos}
theorem binT (ha:PE X a ta) (hb:PE X b tb) {pins:List (Addr×Obj)}{s:Shared}{σ:St}{H:Hp}{R:V→V→Hp→Prop} (I:Inv X pins σ H s)
 (h:ta σ H fun x H1=>tb σ H1 fun y H2=>R x y H2) {Q:Value→Shared→Prop}{f:Value→Value→Sem Value}
 (hf:∀v u s2 x y H2,Inv X pins σ H2 s2→RelV x v→RelV y u→R x y H2→wpAny (model X.prog X.w) X.A (f v u) Q X.xe s2):
 wpAny (model X.prog X.w) X.A (eval a X.env) (fun v s₁=>wpAny (model X.prog X.w) X.A (eval b X.env) (fun u s₂=>wpAny (model X.prog X.w) X.A (f v u) Q X.xe s₂) X.xe s₁) X.xe s:=by
 refine thn (ha pins s σ H _ I h) fun v s1 ⟨x,H1,I1,r1,q1⟩=>?_
 refine thn (hb pins s1 σ H1 _ I1 q1) fun u s2 ⟨y,H2,I2,r2,q2⟩=>?_
 exact hf v u s2 x y H2 I2 r1 r2 q2
theorem z0v {op:Operator}{r:R2} (ho:OpR X (binaryOp op) r) (ha:PE X a ta) (hb:PE X b tb):PE X (.BinOp a op b pos) (tOp r ta tb):=by
 intro pins s σ H Q I h
 exact wpAny_BinOp (binT ha hb I h fun v u s2 x y H2 I2 rx ry q=>ho pins s2 σ H2 x y v u Q I2 rx ry q)
theorem z1E {op:UnaryOp}{r:V→Hp→VK→Prop} (ho:UnR X (unaryOp op) r) (ha:PE X a ta):PE X (.UnaryOp op a pos) (tUn r ta):=by
 intro pins s σ H Q I h
 exact UnaryOp_ (thn (ha pins s σ H _ I h) fun v s1 ⟨x,H1,I1,r1,q1⟩=>ho pins s1 σ H1 x v Q I1 r1 q1)
theorem opI {f:Value→Value→Sem Value}{C:Int→Int→Prop}{g:Int→Int→Int}
 (rule:∀(i j:Int) (t u:Tok) (s:Shared) (Q:Value→Shared→Prop) (E:Value→Shared→Prop),C i j→Q (.int (g i j) s.toks) {s with toks:=s.toks+1}→wpAny (model X.prog X.w) X.A (f (.int i t) (.int j u)) Q E s):
 OpR X f (rI C fun i j=> .int (g i j)):=by
 intro pins s σ H x y v u Q I rx ry h
 obtain⟨i,j,rfl,rfl,hc,q⟩:=h
 obtain⟨t,rfl⟩:=rx
 obtain⟨t',rfl⟩:=ry
 exact rule i j t t' s _ _ hc ⟨.int (g i j),H,I.tok _,⟨_,rfl⟩,q⟩
theorem opI0 {f:Value→Value→Sem Value}{g:Int→Int→Int}
 (rule:∀(i j:Int) (t u:Tok) (s:Shared) (Q:Value→Shared→Prop) (E:Value→Shared→Prop),Q (.int (g i j) s.toks) {s with toks:=s.toks+1}→wpAny (model X.prog X.w) X.A (f (.int i t) (.int j u)) Q E s):
 OpR X f (rI0 fun i j=> .int (g i j)):=by
 intro pins s σ H x y v u Q I rx ry h
 obtain⟨i,j,rfl,rfl,q⟩:=h
 obtain⟨t,rfl⟩:=rx
 obtain⟨t',rfl⟩:=ry
 exact rule i j t t' s _ _ ⟨.int (g i j),H,I.tok _,⟨_,rfl⟩,q⟩
theorem opB0 {f:Value→Value→Sem Value}{g:Int→Int→Bool}
 (rule:∀(i j:Int) (t u:Tok) (s:Shared) (Q:Value→Shared→Prop) (E:Value→Shared→Prop),Q (.bool (g i j)) s→wpAny (model X.prog X.w) X.A (f (.int i t) (.int j u)) Q E s):
 OpR X f (rI0 fun i j=> .bl (g i j)):=by
 intro pins s σ H x y v u Q I rx ry h
 obtain⟨i,j,rfl,rfl,q⟩:=h
 obtain⟨t,rfl⟩:=rx
 obtain⟨t',rfl⟩:=ry
 exact rule i j t t' s _ _ ⟨.bl (g i j),H,I,rfl,q⟩
def CPow (i j:Int):Prop:=0≤j∧j≤1000000∧i.natAbs<2^64
theorem z1s:OpR X (binaryOp .Add) (rI0 fun i j=> .int (i+j)):=opI0 fun _ _ _ _ _ _ _ q=>add_int q
theorem z2p:OpR X (binaryOp .Sub) (rI0 fun i j=> .int (i - j)):=opI0 fun _ _ _ _ _ _ _ q=>sub_int q
theorem y6x:OpR X (binaryOp .Mod) (rI (fun _ j=>0<j) fun i j=> .int (i%j)):=opI fun i j _ _ _ _ _ hc q=>by
 have h1:(0:Int)<j:=hc
 exact mod_int' (by lia) (by rw[Int.fmod_eq_emod_of_nonneg i (by lia)];exact q)
theorem y4Y:OpR X (binaryOp .Mod) (rI (fun _ j=>j≠0) fun i j=> .int (i.fmod j)):=opI fun _ _ _ _ _ _ _ hc q=>mod_int' hc q
theorem y6v:OpR X (binaryOp .Pow) (rI CPow fun i j=> .int (i^j.toNat)):=opI fun _ _ _ _ _ _ _ hc q=>pow_int_small hc.1 hc.2.1 hc.2.2 q
theorem unI {f:Value→Sem Value}{g:Int→Int}
 (rule:∀(i:Int) (t:Tok) (s:Shared) (Q:Value→Shared→Prop) (E:Value→Shared→Prop),Q (.int (g i) s.toks) {s with toks:=s.toks+1}→wpAny (model X.prog X.w) X.A (f (.int i t)) Q E s):
 UnR X f (rU fun i=> .int (g i)):=by
 intro pins s σ H x v Q I rx h
 obtain⟨i,rfl,q⟩:=h
 obtain⟨t,rfl⟩:=rx
 exact rule i t s _ _ ⟨.int (g i),H,I.tok _,⟨_,rfl⟩,q⟩
theorem z1c:UnR X (unaryOp .USub) (rU fun i=> .int (-i)):=unI fun _ _ _ _ _ q=>neg_int q
end
def scal:V→V→Bool
 | .non,.non =>true| .non,.int _=>true| .int _,.non =>true| .non,.bl _=>true| .bl _,.non =>true| .non,.str _=>true| .str _,.non =>true
 | .int _,.int _=>true| .bl _,.bl _=>true| .str _,.str _=>true| .byt _,.byt _=>true
 | .int _,.str _=>true| .str _,.int _=>true| .bl _,.str _=>true| .str _,.bl _=>true
 |_,_=>false
def rEq:R2:=fun x y H Q=>scal x y=true∧Q (.bl (decide (x=y))) H
def rNe:R2:=fun x y H Q=>scal x y=true∧Q (.bl (!decide (x=y))) H
theorem y2l {i j:Int}:decide (V.int i=V.int j)=(i==j):=by
 rw[q1r]
 simp
theorem y4q {i j:Bool}:decide (V.bl i=V.bl j)=(i==j):=by
 rw[q1r]
 simp
theorem y2k {i j:Str}:decide (V.str i=V.str j)=(i==j):=by
 rw[q1r]
 simp
theorem y2m {i j:Array UInt8}:decide (V.byt i=V.byt j)=(i.toList==j.toList):=by
 rw[q1r]
 cases i
 cases j
 simp
section
variable {X:Cx}{a b c:Expr}{ta tb tc:TE}{pos:Pos}
theorem z0Q {pins:List (Addr×Obj)}{σ:St}{H:Hp}{s:Shared}{Q:VK}{k k':Bool} (I:Inv X pins σ H s) (q:Q (.bl k) H) (e:k=k'):EP X pins σ Q (.bool k') s:=by
 subst e
 exact⟨.bl k,H,I,rfl,q⟩
theorem z7S:OpR X (compareOp .Eq) rEq:=by
 intro pins s σ H x y v u Q I rx ry h
 obtain⟨hs,q⟩:=h
 cases x with
 |non=>
  cases rx
  cases y with
  |non=>cases ry;exact PySem.EqNone.eq_none_none (z0Q I q (by simp))
  |bl j=>cases ry;exact PySem.EqNone.eq_none_bool (z0Q I q (by simp))
  |int j=>obtain⟨t',rfl⟩:=ry;exact PySem.EqNone.eq_none_int (z0Q I q (by simp))
  |str j=>obtain⟨t',rfl⟩:=ry;exact PySem.EqNone.eq_none_str (z0Q I q (by simp))
  |_=>exact absurd (show false=true from hs) Bool.false_ne_true
 |bl i=>
  cases rx
  cases y with
  |non=>cases ry;exact PySem.EqNone.eq_bool_none (z0Q I q (by simp))
  |bl j=>cases ry;exact eq_bool (z0Q I q y4q)
  |str j=>obtain⟨t',rfl⟩:=ry;exact PySem.EqMixed.eq_bool_str (z0Q I q (by simp))
  |_=>exact absurd (show false=true from hs) Bool.false_ne_true
 |int i=>
  obtain⟨t,rfl⟩:=rx
  cases y with
  |non=>cases ry;exact PySem.EqNone.eq_int_none (z0Q I q (by simp))
  |int j=>obtain⟨t',rfl⟩:=ry;exact eq_int (z0Q I q y2l)
  |str j=>obtain⟨t',rfl⟩:=ry;exact PySem.EqMixed.eq_int_str (z0Q I q (by simp))
  |_=>exact absurd (show false=true from hs) Bool.false_ne_true
 |str i=>
  obtain⟨t,rfl⟩:=rx
  cases y with
  |non=>cases ry;exact PySem.EqNone.eq_str_none (z0Q I q (by simp))
  |bl j=>cases ry;exact PySem.EqMixed.eq_str_bool (z0Q I q (by simp))
  |int j=>obtain⟨t',rfl⟩:=ry;exact PySem.EqMixed.eq_str_int (z0Q I q (by simp))
  |str j=>obtain⟨t',rfl⟩:=ry;exact eq_str (z0Q I q y2k)
  |_=>exact absurd (show false=true from hs) Bool.false_ne_true
 |byt i=>
  obtain⟨t,rfl⟩:=rx
  cases y with
  |byt j=>obtain⟨t',rfl⟩:=ry;exact PySem.W.eq_bytes (z0Q I q y2m)
  |_=>exact absurd (show false=true from hs) Bool.false_ne_true
 |_=>cases y<;>exact absurd (show false=true from hs) Bool.false_ne_true
theorem z4Q:OpR X (compareOp .NotEq) rNe:=by
 intro pins s σ H x y v u Q I rx ry h
 obtain⟨hs,q⟩:=h
 cases x with
 |non=>
  cases rx
  cases y with
  |non=>cases ry;exact PySem.EqNone.ne_none_none (z0Q I q (by simp))
  |bl j=>cases ry;exact PySem.EqNone.ne_none_bool (z0Q I q (by simp))
  |int j=>obtain⟨t',rfl⟩:=ry;exact PySem.EqNone.ne_none_int (z0Q I q (by simp))
  |str j=>obtain⟨t',rfl⟩:=ry;exact PySem.EqNone.ne_none_str (z0Q I q (by simp))
  |_=>exact absurd (show false=true from hs) Bool.false_ne_true
 |bl i=>
  cases rx
  cases y with
  |non=>cases ry;exact PySem.EqNone.ne_bool_none (z0Q I q (by simp))
  |bl j=>cases ry;exact ne_bool (z0Q I q (congrArg not y4q))
  |str j=>obtain⟨t',rfl⟩:=ry;exact PySem.EqMixed.ne_bool_str (z0Q I q (by simp))
  |_=>exact absurd (show false=true from hs) Bool.false_ne_true
 |int i=>
  obtain⟨t,rfl⟩:=rx
  cases y with
  |non=>cases ry;exact PySem.EqNone.ne_int_none (z0Q I q (by simp))
  |int j=>obtain⟨t',rfl⟩:=ry;exact ne_int (z0Q I q (congrArg not y2l))
  |str j=>obtain⟨t',rfl⟩:=ry;exact PySem.EqMixed.ne_int_str (z0Q I q (by simp))
  |_=>exact absurd (show false=true from hs) Bool.false_ne_true
 |str i=>
  obtain⟨t,rfl⟩:=rx
  cases y with
  |non=>cases ry;exact PySem.EqNone.ne_str_none (z0Q I q (by simp))
  |bl j=>cases ry;exact PySem.EqMixed.ne_str_bool (z0Q I q (by simp))
  |int j=>obtain⟨t',rfl⟩:=ry;exact PySem.EqMixed.ne_str_int (z0Q I q (by simp))
  |str j=>obtain⟨t',rfl⟩:=ry;exact ne_str (z0Q I q (congrArg not y2k))
  |_=>exact absurd (show false=true from hs) Bool.false_ne_true
 |byt i=>
  obtain⟨t,rfl⟩:=rx
  cases y with
  |byt j=>obtain⟨t',rfl⟩:=ry;exact PySem.W.ne_bytes (z0Q I q (congrArg not y2m))
  |_=>exact absurd (show false=true from hs) Bool.false_ne_true
 |_=>cases y<;>exact absurd (show false=true from hs) Bool.false_ne_true
theorem z4R:OpR X (compareOp .Lt) (rI0 fun i j=> .bl (decide (i<j))):=opB0 fun _ _ _ _ _ _ _ q=>lt_int q
theorem op_le:OpR X (compareOp .LtE) (rI0 fun i j=> .bl (decide (i≤j))):=opB0 fun _ _ _ _ _ _ _ q=>le_int q
theorem y1o:OpR X (compareOp .Gt) (rI0 fun i j=> .bl (decide (j<i))):=opB0 fun _ _ _ _ _ _ _ q=>gt_int q
theorem op_ge:OpR X (compareOp .GtE) (rI0 fun i j=> .bl (decide (j≤i))):=opB0 fun _ _ _ _ _ _ _ q=>ge_int q
theorem z0F (b:Expr) {op:CmpOp} (h:op≠ .In :=by decide) (h2:op≠ .NotIn :=by decide):behindInMarks op b=false:=by
 have e1:(op==CmpOp.In)=false:=by cases op<;>first|rfl|exact absurd rfl h
 have e2:(op==CmpOp.NotIn)=false:=by cases op<;>first|rfl|exact absurd rfl h2
 cases b<;>simp[behindInMarks,e1,e2]
theorem z7P {op:CmpOp}{r:R2} (ho:OpR X (compareOp op) r) (ha:PE X a ta) (hb:PE X b tb) (hm:behindInMarks op b=false):PE X (.Compare a [op] [b] pos) (tOp r ta tb):=by
 intro pins s σ H Q I h
 exact wpAny_Compare1 (binT ha hb I h fun v u s2 x y H2 I2 rx ry q=>ho pins s2 σ H2 x y v u Q I2 rx ry q) hm
def tTest (t:TE):TT:=fun σ H Q=>t σ H fun x H'=>∃k,x= .bl k∧Q k H'
theorem z0A {op:CmpOp}{r:R2} (ho:OpR X (compareOp op) r) (ha:PE X a ta) (hb:PE X b tb) (hm:behindInMarks op b=false):PT X (.Compare a [op] [b] pos) (tTest (tOp r ta tb)):=by
 intro pins s σ H Q I h
 refine wpAny_isTrue_Compare1 (thn (ha pins s σ H _ I h) fun v s1 ⟨x,H1,I1,r1,q1⟩=>thn (hb pins s1 σ H1 _ I1 q1) fun u s2 ⟨y,H2,I2,r2,q2⟩=>
  thn (ho pins s2 σ H2 x y v u _ I2 r1 r2 q2) fun c s3 ⟨z,H3,I3,r3,k,e,q3⟩=>?_) hm
 subst e
 cases r3
 exact wpAny_truthy_bool ⟨H3,I3,q3⟩
def TruV (K:PySem.W.Frag) (x:V) (H:Hp) (k:Bool):Prop:=
 match x with
 | .non =>k=false
 | .bl b=>k=b
 | .int i=>k=(i != 0)
 | .str y=>y.length≤sizeLine∧k=((y.length:Int) != 0)
 | .byt y=>y.size≤sizeLine∧k=((y.size:Int) != 0)
 | .ref p=>(∃xs,SqL K H p xs∧k= !xs.isEmpty)∨(∃xs,SqT K H p xs∧k= !xs.isEmpty)∨∃kvs,H p=some (.dK kvs)∧k= !kvs.isEmpty
 |_=>False
theorem z9U {κ:Type}{kvs:List (κ×V)}{vs:List (κ×Value)} (r:KV kvs vs):(!vs.isEmpty)= !kvs.isEmpty:=by
 cases r<;>rfl
theorem z5m {xs:List V}{its:List Value} (r:Vals xs its):(!its.toArray.isEmpty)= !xs.isEmpty:=by
 cases r<;>simp
theorem z6V:(sizeLine:Nat)<2^63:=by rw[sizeLine_eq];decide
theorem y5U:TruR X (fun x H Q=>∃k,TruV X.K x H k∧Q k H):=by
 intro pins s σ H x v Q I rx h
 obtain⟨k,e,q⟩:=h
 have hl:=z6V
 have hs:sizeLine=16777216:=sizeLine_eq
 cases x with
 |non=>
  cases rx
  have e':k=false:=e
  subst e'
  exact truthy_none ⟨H,I,q⟩
 |bl b=>
  cases rx
  have e':k=b:=e
  subst e'
  exact wpAny_truthy_bool ⟨H,I,q⟩
 |int i=>
  obtain⟨t,rfl⟩:=rx
  have e':k=(i != 0):=e
  subst e'
  exact PySem.P.truthy_int ⟨H,I,q⟩
 |str y=>
  obtain⟨t,rfl⟩:=rx
  obtain⟨hy,e'⟩:y.length≤sizeLine∧k=((y.length:Int) != 0):=e
  subst e'
  exact PySem.P.truthy_str (by lia) ⟨H,I.tok _,q⟩
 |byt y=>
  obtain⟨t,rfl⟩:=rx
  obtain⟨hy,e'⟩:y.size≤sizeLine∧k=((y.size:Int) != 0):=e
  subst e'
  exact PySem.W.truthy_bytes (by lia) ⟨H,I.tok _,q⟩
 |ref p=>
  cases rx
  have e':(∃xs,SqL X.K H p xs∧k= !xs.isEmpty)∨(∃xs,SqT X.K H p xs∧k= !xs.isEmpty)∨∃kvs,H p=some (.dK kvs)∧k= !kvs.isEmpty:=e
  rcases e' with⟨xs,hx,e'⟩|⟨xs,hx,e'⟩|⟨kvs,hx,e'⟩
  ·subst e'
   obtain⟨its,r,pl,hz⟩:=I.list hx
   have hlen:=r.length
   exact wpAny_truthy_list pl.isList (by simp only[q0e];lia) ⟨H,I.tok _,by rw[z5m r];exact q⟩
  ·subst e'
   obtain⟨its,r,pl,hz⟩:=I.tuple hx
   have hlen:=r.length
   exact truthy_tuple pl (by simp only[q0e];lia) ⟨H,I.tok _,by rw[z5m r];exact q⟩
  ·subst e'
   obtain⟨hz,hS,vs,r,m⟩:kvs.length≤sizeLine∧(p==sysModules)=false∧∃vs,KV kvs vs∧s.heap.DictOf (z1p X.prog X.w) p vs:=I.hok p _ hx
   have hlen:kvs.length=vs.length:=Paired.length r
   exact wpAny_truthy_dict hS m (by lia) ⟨H,I.tok _,by rw[z9U r];exact q⟩
 |_=>exact (show False from e).elim
theorem y3a (ha:PE X a ta) (he:∀whole,isTrue a X.env whole=(do let v ←whole;standAt a.pos;holding [v] (truthy v))):
 PT X a (fun σ H Q=>ta σ H fun x H'=>∃k,TruV X.K x H' k∧Q k H'):=by
 intro pins s σ H Q I h
 exact isTrue_plain (thn (ha pins s σ H _ I h) fun v s1 ⟨x,H1,I1,r1,q1⟩=>y5U pins s1 σ H1 x v Q I1 r1 q1) (he _)
theorem z9n {x:V}{us:List Value} (r:Vals [x] us):∃u,us=[u]∧RelV x u:=by
 cases r with
 |cons r1 r2=>cases r2;exact⟨_,rfl,r1⟩
theorem y2H {x y:V}{us:List Value} (r:Vals [x,y] us):∃u w',us=[u,w']∧RelV x u∧RelV y w':=by
 cases r with
 |cons r1 r2=>
  cases r2 with
  |cons r3 r4=>cases r4;exact⟨_,_,rfl,r1,r3⟩
theorem z3R:z2t X (.builtin "abs") (fun xs H Q=>∃i,xs=[.int i]∧Q (.int (if i<0 then -i else i)) H):=by
 intro pins s σ H xs us Q I r h
 obtain⟨i,rfl,q⟩:=h
 obtain⟨u,rfl,t,rfl⟩:=z9n r
 exact call_abs_int fun u tk=>⟨.int (if i<0 then -i else i),H,I.tok _,⟨_,rfl⟩,q⟩
theorem y2v (hc:X.calm=true):z2t X (.builtin "max") (fun xs H Q=>∃i j,xs=[.int i,.int j]∧Q (.int (if j>i then j else i)) H):=by
 intro pins s σ H xs us Q I r h
 obtain⟨i,j,rfl,q⟩:=h
 obtain⟨u,w',rfl,⟨t,rfl⟩,⟨t',rfl⟩⟩:=y2H r
 refine max_two_ints (I.ok.hd hc) fun h' tk k=>⟨_,H,I.kept k,?_,q⟩
 by_cases hj:j>i
 ·rw[if_pos hj,if_pos hj];exact⟨_,rfl⟩
 ·rw[if_neg hj,if_neg hj];exact⟨_,rfl⟩
theorem y2u (hc:X.calm=true):z2t X (.builtin "min") (fun xs H Q=>∃i j,xs=[.int i,.int j]∧Q (.int (if j<i then j else i)) H):=by
 intro pins s σ H xs us Q I r h
 obtain⟨i,j,rfl,q⟩:=h
 obtain⟨u,w',rfl,⟨t,rfl⟩,⟨t',rfl⟩⟩:=y2H r
 refine min_two_ints (I.ok.hd hc) fun h' tk k=>⟨_,H,I.kept k,?_,q⟩
 by_cases hj:j<i
 ·rw[if_pos hj,if_pos hj];exact⟨_,rfl⟩
 ·rw[if_neg hj,if_neg hj];exact⟨_,rfl⟩
end
end L2
namespace L2
open PySem PySem.Spec PyProof.Rows
structure ObjM (h:Heap) (x dx C:Addr) (mA:Str→Option Value):Prop where
 obj:h.get? x=some (PySem.W.instObj C dx)
 ns:h.Ns1 dx mA
 ne:dx≠x
theorem y1J {h:Heap}{dx:Addr}{mA:Str→Option Value} (n:h.Ns1 dx mA):∃od,h.get? dx=some od∧∀name,PySem.W.lookIn name od=some (mA name):=by
 obtain⟨o,es,ep,ho,hd,hk,_,hm⟩:=n
 refine⟨o,ho,fun name=>?_⟩
 have e:=hm name
 unfold nsFind findBy at e
 rw[←Array.find?_toList] at e
 unfold PySem.W.lookIn
 rw[hd]
 dsimp only
 split
 ·rename_i y q
  rw[q] at e
  exact congrArg some e
 ·rename_i q
  rw[q] at e
  have a:es.toList.any (·.refKey)=false:=by
   rw[List.any_eq_false]
   intro y hy
   obtain⟨z,t,hkey⟩:=hk y (Array.mem_toList_iff.mp hy)
   simp[DictEntry.refKey,hkey]
  have a':¬es.toList.any (·.refKey)=true:=by rw[a];exact q0z
  rw[if_neg a']
  exact congrArg some e
theorem ObjM.look {h:Heap}{x dx C:Addr}{mA:Str→Option Value} (I:ObjM h x dx C mA):∃od,PySem.W.InstAt h x (PySem.W.instObj C dx) C (some od)∧∀name,PySem.W.lookIn name od=some (mA name):=
 let ⟨od,ho,hl⟩:=y1J I.ns
 ⟨od,⟨I.obj,rfl,rfl,ho⟩,hl⟩
section
variable {prog:Program}{w:World}{A:Around}{E:Value→Shared→Prop}{s:Shared}{K:PySem.W.Frag}{x dx C f:Addr}{mA:Str→Option Value}{name:Str}{v:Value}
theorem y5v {expr:Bool}{Q:Value→Shared→Prop} (X:K.In s.heap) (I:ObjM s.heap x dx C mA) (hg:PySem.W.plainGet K C name=true) (hh:PySem.W.hasDictIn K C=true)
 (ha:PySem.W.findIn K (.ref C) name=some none) (hv:mA name=some v) (hv':PySem.W.handedIn v=true) (h:Q v {s with toks:=s.toks+1}):
 wpAny (model prog w) A (getAttr (.ref x) name expr) Q E s:=by
 obtain⟨od,J,hl⟩:=I.look
 exact PySem.W.get_value X J (PySem.W.plainGet_of hg).1 (PySem.W.findObj_own hh ha rfl (by rw[hl,hv])) hv' h
theorem y3E {pl:Sem Bool}{Q:Value×List Value→Shared→Prop} (X:K.In s.heap) (I:ObjM s.heap x dx C mA) (hg:PySem.W.plainGet K C name=true)
 (hf:PySem.W.findIn K (.ref C) name=some (some (.ref f))) (ht:PySem.W.isFn K (.ref f)=true) (hv:mA name=none) (h:Q (.ref f,[.ref x]) s):
 wpAny (model prog w) A (getMethod (.ref x) name pl) Q E s:=by
 obtain⟨od,J,hl⟩:=I.look
 exact PySem.W.method_fn X J (PySem.W.plainGet_of hg).1 (PySem.W.plainGet_of hg).2 hf (beq_iff_eq.mp ht) (by show (PySem.W.lookIn name od).map (·.isSome)=some false;rw[hl,hv];rfl) h
theorem y4I {ns:List Str}{Q:Unit→Shared→Prop} (X:K.In s.heap) (I:ObjM s.heap x dx C mA)
 (hs:PySem.W.findIn K (.ref C) "__setattr__"=some (some (.builtin "object.__setattr__"))) (hp:PySem.W.plainOver K C=true) (ht:PySem.W.takerIn K C name=some none) (hh:PySem.W.hasDictIn K C=true)
 (hw:PySem.Within mA ns) (hsz:ns.length≤sizeLine)
 (h:∀h',ObjM h' x dx C (fun y=>if y=name then some v else mA y)→Heap.SameBut dx s.heap h'→Q () {s with heap:=h',toks:=s.toks+2}):
 wpAny (model prog w) A (setAttr (.ref x) name v) Q E s:=by
 obtain⟨od,J,hl⟩:=I.look
 refine PySem.W.set_plain X J hs (PySem.W.osa_open (s:={s with toks:=s.toks+1}) (r:=none) X J hp ht fun b=>?_)
 obtain⟨cd,hc,hd'⟩:=PySem.W.any_some hh
 have hx:s.heap.get? x=some ⟨.ref C,some dx,.plain,#[]⟩:=I.obj
 refine wpAny_bind (wpAny_pure (wpAny_bind (wpAny_bind (wpAny_loadPart hx (wpAny_bind (PySem.W.Looks.here (s:={s with toks:=s.toks+1}) (PySem.W.looks_clsIn X hc) ?_))))))
 rw[hd']
 refine wpAny_pure (a:=some dx) (wpAny_bind (wpAny_pure (wpAny_bind ?_)))
 refine wpAny_nsSet1 (s:={s with toks:=s.toks+1}) I.ns fun h' hn2 hs2=>?_
 obtain⟨oD,esD,epD,hoD,hdD,hcD⟩:=hn2.count (PySem.Within.cons name v hw)
 refine wpAny_bind (wpAny_lookBehind hoD (by rw[hdD];exact pastItsLine_dict (q0p hcD (by rw[q0F];lia))) ?_)
 exact wpAny_pure (h _ ⟨(hs2.2 _ (Ne.symm I.ne)).trans I.obj,hn2,I.ne⟩ hs2)
theorem y3v {R:Result→Shared→Prop}{vs:List Value}{kw:List (Str×Value)} (X:K.In s.heap) (hm:PySem.W.makesIn K C=true)
 (hi:PySem.W.findIn K (.ref C) "__init__"=some (some (.ref f))) (hf:PySem.W.typeIn K (.ref f)=some (.type "function"))
 (h:codeAny (model prog w) (A.under (.builtin "type.__call__" ⟨.ref C::vs,kw⟩)) (.call (.ref f) ⟨.ref (s.heap.objs.size+1)::vs,kw⟩) (PySem.W.InitBack (s.heap.objs.size+1) R)
  {s with heap:=(s.heap.push PySem.W.emptyDict).push (PySem.W.instObj C s.heap.objs.size)}):
 codeAny (model prog w) A (.call (.ref C) ⟨vs,kw⟩) R s:=by
 obtain⟨hh,g,d,t,os⟩:=s
 exact PySem.W.make_core (PySem.W.makes_of X hm) (PySem.W.looks_findIn X hi) (fun self=>PySem.W.bind_fn X self hf) (.inl rfl) h
end
def z7s (f:Str) (v:V):List (Str×V)→List (Str×V)
 |[]=>[(f,v)]
 |(g,x)::r=>if g=f then (g,v)::r else (g,x)::z7s f v r
theorem z4y (f g:Str) (v:V):∀fs:List (Str×V),(z7s f v fs).lookup g=if g=f then some v else fs.lookup g
 |[]=>by
  show List.lookup g [(f,v)]=_
  by_cases h:g=f
  ·have hb:(g==f)=true:=beq_iff_eq.mpr h
   simp only[List.lookup,hb,if_pos h]
  ·have hb:(g==f)=false:=beq_eq_false_iff_ne.mpr h
   simp only[List.lookup,hb,if_neg h]
 |(k,x)::r=>by
  have ih:=z4y f g v r
  rw[show z7s f v ((k,x)::r)=(if k=f then (k,v)::r else (k,x)::z7s f v r) from rfl]
  by_cases hk:k=f
  ·rw[if_pos hk]
   by_cases h:g=k
   ·have hb:(g==k)=true:=beq_iff_eq.mpr h
    simp only[List.lookup,hb,if_pos (h.trans hk)]
   ·have hb:(g==k)=false:=beq_eq_false_iff_ne.mpr h
    simp only[List.lookup,hb,if_neg (fun e:g=f=>h (e.trans hk.symm))]
  ·rw[if_neg hk]
   by_cases h:g=k
   ·have hb:(g==k)=true:=beq_iff_eq.mpr h
    simp only[List.lookup,hb,if_neg (fun e:g=f=>hk (h.symm.trans e))]
   ·have hb:(g==k)=false:=beq_eq_false_iff_ne.mpr h
    simp only[List.lookup,hb]
    exact ih
theorem z4C (f:Str) (v:V):∀fs:List (Str×V),f∈(z7s f v fs).map (·.1)∧∀g,g∈fs.map (·.1)→g∈(z7s f v fs).map (·.1)
 |[]=>⟨by simp[z7s],fun g h=>by simp at h⟩
 |(k,x)::r=>by
  obtain⟨i1,i2⟩:=z4C f v r
  rw[show z7s f v ((k,x)::r)=(if k=f then (k,v)::r else (k,x)::z7s f v r) from rfl]
  by_cases hk:k=f
  ·rw[if_pos hk]
   subst hk
   exact⟨by simp,fun g h=>by simpa using h⟩
  ·rw[if_neg hk]
   refine⟨?_,fun g h=>?_⟩
   ·rw[q0u]
    exact q0f _ i1
   ·rw[q0u] at h ⊢
    rcases q0r.mp h with e|e
    ·exact q0r.mpr (.inl e)
    ·exact q0f _ (i2 g e)
theorem z4B (f:Str) (v:V):∀fs:List (Str×V),(z7s f v fs).length ≤fs.length+1
 |[]=>by simp[z7s]
 |(k,x)::r=>by
  have ih:=z4B f v r
  rw[show z7s f v ((k,x)::r)=(if k=f then (k,v)::r else (k,x)::z7s f v r) from rfl]
  by_cases hk:k=f
  ·rw[if_pos hk,q0F,q0F];lia
  ·rw[if_neg hk,q0F,q0F];lia
theorem RelO.some_of {v:V}{o:Option Value} (r:RelO (some v) o):∃u,o=some u∧RelV v u:=by
 cases o with
 |none=>exact (show False from r).elim
 |some u=>exact⟨u,rfl,r⟩
theorem RelO.none_of {o:Option Value} (r:RelO none o):o=none:=by
 cases o with
 |none=>rfl
 |some u=>exact (show False from r).elim
theorem y2b {v:V}{u:Value} (r:RelV v u):PySem.W.handedIn u=true:=by
 cases v with
 |non=>cases (show u=Value.none from r);rfl
 |bl b=>cases (show u=Value.bool b from r);rfl
 |int i=>obtain⟨t,e⟩:=(show ∃t,u=Value.int i t from r);cases e;rfl
 |str x=>obtain⟨t,e⟩:=(show ∃t,u=Value.str x t from r);cases e;rfl
 |byt b=>obtain⟨t,e⟩:=(show ∃t,u=Value.bytes b t from r);cases e;rfl
 |flt b=>obtain⟨t,e⟩:=(show ∃t,u=Value.float b t from r);cases e;rfl
 |ref a=>cases (show u=Value.ref a from r);rfl
 |ty n=>cases (show u=Value.type n from r);rfl
section
variable {P:Program}{w:World}{H H':Hp}{h h':Heap}{a C dx:Addr}{fs fs':List (Str×V)}
theorem z6f (hok:HOk P w H h) (e:H a=some (.ins C dx fs)):∃mA,ObjM h a dx C mA∧(∀f,RelO (fs.lookup f) (mA f))∧PySem.Within mA (fs.map (·.1))∧fs.length≤1000∧H dx=some (.own a):=by
 obtain⟨d,z,ne,ob,mA,n,r,q⟩:=(show ObjOk P w H h a (.ins C dx fs) from hok a _ e)
 exact⟨mA,⟨ob,n,ne⟩,r,q,z,d⟩
end
structure Cls (K:PySem.W.Frag) (C:Addr):Prop where
 pg:PySem.W.plainGet K C Str.empty=true
 hd:PySem.W.hasDictIn K C=true
 po:PySem.W.plainOver K C=true
 sa:PySem.W.findIn K (.ref C) "__setattr__"=some (some (.builtin "object.__setattr__"))
theorem Cls.get {K:PySem.W.Frag}{C:Addr} (c:Cls K C) (f:Str):PySem.W.plainGet K C f=true:=c.pg
def NoAttr (K:PySem.W.Frag) (C:Addr) (f:Str):Prop:=PySem.W.findIn K (.ref C) f=some none
theorem NoAttr.taker {K:PySem.W.Frag}{C:Addr}{f:Str} (n:NoAttr K C f):PySem.W.takerIn K C f=some none:=by
 unfold PySem.W.takerIn
 rw[show PySem.W.findIn K (.ref C) f=some none from n]
 rfl
structure y3S (K:PySem.W.Frag) (C:Addr) (m:Str) (f:Addr):Prop where
 at_:PySem.W.findIn K (.ref C) m=some (some (.ref f))
 fn:PySem.W.isFn K (.ref f)=true
 kp:PySem.W.keepIn K (.ref f)=true
section
variable {X:Cx}{pins:List (Addr×Obj)}{σ:St}{H:Hp}{s:Shared}{a C dx:Addr}{fs:List (Str×V)}{f:Str}{v:V}{A:Around}{E:Value→Shared→Prop}
theorem z9W {b:Bool}{Q:Value→Shared→Prop} (I:Inv X pins σ H s) (e:H a=some (.ins C dx fs)) (c:Cls X.K C) (n:NoAttr X.K C f) (l:fs.lookup f=some v)
 (h:∀u s',Inv X pins σ H s'→RelV v u→Q u s'):wpAny (model X.prog X.w) A (getAttr (.ref a) f b) Q E s:=by
 obtain⟨mA,O,r,_,_,_⟩:=z6f I.hok e
 obtain⟨u,hu,ru⟩:=RelO.some_of (v:=v) (o:=mA f) (by rw[←l];exact r f)
 exact y5v I.kIn O (c.get f) c.hd n hu (y2b ru) (h u _ (I.tok _) ru)
theorem z5o {m:Str}{g:Addr}{pl:Sem Bool}{Q:Value×List Value→Shared→Prop} (I:Inv X pins σ H s) (e:H a=some (.ins C dx fs)) (c:Cls X.K C) (k:y3S X.K C m g) (l:fs.lookup m=none)
 (h:Q (.ref g,[.ref a]) s):wpAny (model X.prog X.w) A (getMethod (.ref a) m pl) Q E s:=by
 obtain⟨mA,O,r,_,_,_⟩:=z6f I.hok e
 have hn:mA m=none:=RelO.none_of (by rw[←l];exact r m)
 exact y3E I.kIn O (c.get m) k.at_ k.fn hn h
theorem z9q {y:V}{u:Value}{Q:Unit→Shared→Prop} (I:Inv X pins σ H s) (e:H a=some (.ins C dx fs)) (c:Cls X.K C) (n:NoAttr X.K C f) (hl:fs.length<1000) (ry:RelV y u)
 (h:∀s',Inv X pins σ (upd H a (.ins C dx (z7s f y fs))) s'→Q () s'):wpAny (model X.prog X.w) A (setAttr (.ref a) f u) Q E s:=by
 obtain⟨mA,O,r,wi,_,ho⟩:=z6f I.hok e
 have hz:(fs.map (·.1)).length ≤sizeLine:=by rw[q0a,sizeLine_eq];lia
 refine y4I I.kIn O c.sa c.po n.taker c.hd wi hz fun h' O' sb=>h _ ?_
 have hd:∃o,h'.get? dx=some o:=let ⟨o,_,_,e',_⟩:=O'.ns;⟨o,e'⟩
 refine I.write (x:=a) (e:=dx) (by rw[e];exact True.intro) (.inr ho) (fun b q hb z=>(sb.2 b hb).trans z) hd ?_
 refine⟨by rw[z0l O.ne];exact ho,?_,O.ne,O'.obj,_,O'.ns,fun g=>?_,fun g hg=>?_⟩
 ·have:=z4B f y fs;lia
 ·show RelO ((z7s f y fs).lookup g) (if g=f then some u else mA g)
  rw[z4y]
  by_cases q:g=f
  ·rw[if_pos q,if_pos q];exact ry
  ·rw[if_neg q,if_neg q];exact r g
 ·by_cases q:g=f
  ·rw[q];exact (z4C f y fs).1
  ·refine (z4C f y fs).2 g (wi g fun z=>hg ?_)
   show (if g=f then some u else mA g)=none
   rw[if_neg q];exact z
theorem Inv.made (I:Inv X pins σ H s):Inv X pins σ (upd (upd H s.heap.objs.size (.own (s.heap.objs.size+1))) (s.heap.objs.size+1) (.ins C s.heap.objs.size []))
 {s with heap:=(s.heap.push PySem.W.emptyDict).push (PySem.W.instObj C s.heap.objs.size)}:=by
 have e1:(s.heap.push PySem.W.emptyDict).get? s.heap.objs.size=some PySem.W.emptyDict:=q0s s.heap rfl
 have e2:((s.heap.push PySem.W.emptyDict).push (PySem.W.instObj C s.heap.objs.size)).get? (s.heap.objs.size+1)=some (PySem.W.instObj C s.heap.objs.size):=by
  have:=q0s (s.heap.push PySem.W.emptyDict) (o:=PySem.W.instObj C s.heap.objs.size) rfl
  rwa[q1u] at this
 have e3:(s.heap.push PySem.W.emptyDict).Ns s.heap.objs.size (fun _=>none):=⟨PySem.W.emptyDict,#[],_,e1,rfl,(fun e he=>absurd he (by simp)),fun _=>rfl⟩
 have I1:=I.laid (a:=s.heap.objs.size) (o:= .own (s.heap.objs.size+1)) (h':=s.heap.push PySem.W.emptyDict) (t':=s.toks) (fun b u q=>q0d _ q) (q0j _) ⟨_,e1⟩
 refine I1.laid (a:=s.heap.objs.size+1) (o:= .ins C s.heap.objs.size []) (t':=s.toks) (fun b u q=>q0d _ q) (Nat.le_of_eq (q1u _ _)) ?_
 have ne:s.heap.objs.size≠s.heap.objs.size+1:=q0w (Nat.lt_succ_self _)
 refine⟨by rw[z0l ne,z0d],q0S _,ne,e2,fun _=>none,(Heap.Ns1.of_empty e3).at fun o q=>q0d _ q,fun _=>True.intro,fun y hy=>absurd rfl hy⟩
theorem y5K {prog:Program}{w:World}{env:Env}{e:Expr}{f:Str}{pos:Pos}{s:Shared}{Q:Value→Shared→Prop} (hb:attributeBase e f env (eval e env)=eval e env)
 (h:wpAny (model prog w) A (eval e env) (fun o s₁=>wpAny (model prog w) A (getAttr o f true) Q E s₁) E s):wpAny (model prog w) A (eval (.Attribute e f pos) env) Q E s:=
 Attribute_any_ h (by rw[arm_eval_Attribute,hb])
end
def tFld (K:PySem.W.Frag) (ta:TE) (f:Str):TE:=fun σ H Q=>ta σ H fun x H1=>∃a C dx fs v,x= .ref a∧H1 a=some (.ins C dx fs)∧Cls K C∧NoAttr K C f∧fs.lookup f=some v∧Q v H1
def sFld (K:PySem.W.Frag) (ta tv:TE) (f:Str):TS:=fun D σ H=>tv σ H fun y H1=>ta σ H1 fun x H2=>∃a C dx fs,x= .ref a∧H2 a=some (.ins C dx fs)∧Cls K C∧NoAttr K C f∧fs.length<1000∧
 D.nx σ (upd H2 a (.ins C dx (z7s f y fs)))
section
variable {X:Cx}{o e value:Expr}{f:Str}{pos pos' tpos:Pos}{ta tv:TE}
theorem z2N (he:PE X e ta) (hb:attributeBase e f X.env (eval e X.env)=eval e X.env):PE X (.Attribute e f pos) (tFld X.K ta f):=by
 intro pins s σ H Q I h
 refine y5K hb (thn (he pins s σ H _ I h) fun u s1 ⟨x,H1,I1,rx,a,C,dx,fs,v,ex,ea,c,n,l,q⟩=>?_)
 subst ex
 obtain rfl:u=Value.ref a:=rx
 exact z9W I1 ea c n l fun u' s2 I2 ru=>⟨v,H1,I2,ru,q⟩
theorem y4c (ha:PE X o ta) (hv:PE X value tv) (hs:swapsWith value (some (.Attribute o f pos')) pos.line X.env=pure false):PS X (.Assign [.Attribute o f pos'] value pos) (sFld X.K ta tv f):=by
 intro pins s σ H D I h
 refine plainObj_wpAny_Assign_Attribute (thn (hv pins s σ H _ I h) fun u s1 ⟨y,H1,I1,ry,q⟩=>thn (ha pins s1 σ H1 _ I1 q) fun ov s2 ⟨x,H2,I2,rx,a,C,dx,fs,ex,ea,c,n,l,q2⟩=>?_) hs
 subst ex
 obtain rfl:ov=Value.ref a:=rx
 exact z9q I2 ea c n l ry fun s3 I3=>⟨σ,_,I3,q2⟩
end
section
variable {X:Cx}{pins:List (Addr×Obj)}{σ:St}{H:Hp}{s:Shared}{A:Around}{E:Value→Shared→Prop}{Q:Value→Shared→Prop}{c:Value}{b:Bool}
inductive y0k (K:PySem.W.Frag) (H:Hp):V→Value→Prop where
 |non:y0k K H .non (.type "NoneType")
 |bl (x:Bool):y0k K H (.bl x) (.type "bool")
 |int (i:Int):y0k K H (.int i) (.type "int")
 |str (x:Str):y0k K H (.str x) (.type "str")
 |flt (x:UInt64):y0k K H (.flt x) (.type "float")
 |lst {a:Addr}{xs:List V} (e:H a=some (.lst xs)):y0k K H (.ref a) (.type "list")
 |frz {a:Addr}{o:Obj}{xs:List V} (e:H a=some (.frz o (.lst xs))):y0k K H (.ref a) (.type "list")
 |tup {a:Addr}{xs:List V} (e:H a=some (.tup xs)):y0k K H (.ref a) (.type "tuple")
 |dK {a:Addr}{kvs:List (Key×V)} (e:H a=some (.dK kvs)):y0k K H (.ref a) (.type "dict")
 |dT {a:Addr}{kvs:List (List Key×V)} (e:H a=some (.dT kvs)):y0k K H (.ref a) (.type "dict")
 |ins {a C dx:Addr}{fs:List (Str×V)} (e:H a=some (.ins C dx fs)) (cl:Cls K C) (ha:PySem.W.findIn K (.ref C) "__class__"=some (some (.builtin "object.__class__")))
  (hn:PySem.W.specialIn K (.builtin "object.__class__") "__get__"=some (some (.builtin "getset_descriptor.__get__"))) (htk:PySem.W.takesIn K (.builtin "object.__class__")=some true)
  (hm:PySem.W.mroIn K C (.type "object")=some true):y0k K H (.ref a) (.ref C)
theorem y1Q {x:V}{u t:Value} (I:Inv X pins σ H s) (rx:RelV x u) (ty:y0k X.K H x t) (e:PySem.W.kitOne X.K t c=some b) (h:∀tk,Q (.bool b) {s with toks:=tk}):
 wpAny (model X.prog X.w) A (call (.builtin "isinstance") [u,c]) Q E s:=by
 cases ty with
 |non=>cases (show u=Value.none from rx);exact PySem.W.kia_one PySem.W.kitx_none I.kIn True.intro e (fun z=>nomatch z) h
 |bl y=>cases (show u=Value.bool y from rx);exact PySem.W.kia_one PySem.W.kitx_bool I.kIn True.intro e (fun z=>nomatch z) h
 |int i=>obtain⟨t,q⟩:=(show ∃t,u=Value.int i t from rx);cases q;exact PySem.W.kia_one PySem.W.kitx_int I.kIn True.intro e (fun z=>nomatch z) h
 |str y=>obtain⟨t,q⟩:=(show ∃t,u=Value.str y t from rx);cases q;exact PySem.W.kia_one PySem.W.kitx_str I.kIn True.intro e (fun z=>nomatch z) h
 |flt y=>obtain⟨t,q⟩:=(show ∃t,u=Value.float y t from rx);cases q;exact PySem.W.kia_one PySem.W.kitx_float I.kIn True.intro e (fun z=>nomatch z) h
 | @lst a xs ea=>
   cases (show u=Value.ref a from rx)
   obtain⟨_,_,n,_,h1⟩:=(show ObjOk X.prog X.w H s.heap a (.lst xs) from I.hok a _ ea)
   exact q1i PySem.W.kitx_list I.kIn ⟨_,h1,rfl⟩ e (fun z=>nomatch z) h
 | @frz a ob xs ea=>
   cases (show u=Value.ref a from rx)
   obtain⟨_,_,_,n,_,h1⟩:=(show ObjOk X.prog X.w H s.heap a (.frz ob (.lst xs)) from I.hok a _ ea)
   exact q1i PySem.W.kitx_list I.kIn ⟨_,h1,rfl⟩ e (fun z=>nomatch z) h
 | @tup a xs ea=>
   cases (show u=Value.ref a from rx)
   obtain⟨_,_,_,p⟩:=(show ObjOk X.prog X.w H s.heap a (.tup xs) from I.hok a _ ea)
   obtain⟨o,h1,h2,_⟩:=p
   exact q1i PySem.W.kitx_tuple I.kIn ⟨o,h1,h2⟩ e (fun z=>nomatch z) h
 | @dK a kvs ea=>
   cases (show u=Value.ref a from rx)
   obtain⟨_,_,vs,_,p⟩:=(show ObjOk X.prog X.w H s.heap a (.dK kvs) from I.hok a _ ea)
   obtain⟨o,es,ep,h1,h2,_⟩:=p
   exact q1i PySem.W.kitx_dict I.kIn ⟨o,h1,h2.1⟩ e (fun z=>nomatch z) h
 | @dT a kvs ea=>
   cases (show u=Value.ref a from rx)
   obtain⟨_,_,xs,_,o,es,ep,h1,h2,_⟩:=(show ObjOk X.prog X.w H s.heap a (.dT kvs) from I.hok a _ ea)
   exact q1i PySem.W.kitx_dict I.kIn ⟨o,h1,h2.1⟩ e (fun z=>nomatch z) h
 | @ins a C dx fs ea cl ha hn htk hm=>
   cases (show u=Value.ref a from rx)
   obtain⟨mA,O,_⟩:=z6f I.hok ea
   obtain⟨od,J,_⟩:=O.look
   exact q1i (PySem.W.kitx_own (cl.get _) cl.hd ha hn htk hm) I.kIn J e (fun z=>nomatch z) h
end
end L2
namespace L2
open PySem PySem.Spec PyProof.Rows
structure Room (k:Nat) (A:Around):Prop where
 hd:A.handled=none
 dp:A.depth+3*k+5<recursionLimit
 un:A.units+16*k+200<cLine
theorem Room.mono {j k:Nat}{A:Around} (r:Room k A) (h:j≤k):Room j A:=⟨r.hd,by have:=r.dp;lia,by have:=r.un;lia⟩
theorem Room.deeper {k:Nat}{A:Around} (r:Room (k+1) A) (env:Env):Room k (A.deeper env):=
 ⟨r.hd,by have:=r.dp;show A.depth+1+3*k+5<_;lia,by have:=r.un;show A.units+3+16*k+200<_;lia⟩
theorem Room.in1 {k:Nat}{A:Around} (r:Room (k+1) A):Room k A.in1:=
 ⟨r.hd,by have:=r.dp;show A.depth+3*k+5<_;lia,by have:=r.un;show A.units+1+16*k+200<_;lia⟩
theorem z9Q {A:Around}{C:Addr}{us:List Value}{kw:List (Str×Value)}:(A.under (.builtin "type.__call__" ⟨.ref C::us,kw⟩)).depth =A.depth+1:=by
 first|rfl|simp[Around.under,Code.weight,Code.isCreation,Code.isGuard,Code.isCaller,Code.frames,Code.isFrame,guardIds]
theorem z9P {A:Around}{C:Addr}{us:List Value}{kw:List (Str×Value)}:(A.under (.builtin "type.__call__" ⟨.ref C::us,kw⟩)).units =A.units+1:=by
 first|rfl|simp[Around.under,Code.cUnits,Code.frames,Code.isFrame]
theorem Room.make {k:Nat}{A:Around} (r:Room (k+1) A) (C:Addr) (us:List Value) (kw:List (Str×Value)):Room k (A.under (.builtin "type.__call__" ⟨.ref C::us,kw⟩)):=
 ⟨r.hd,by have:=r.dp;rw[z9Q];lia,by have:=r.un;rw[z9P];lia⟩
theorem Room.depth {k:Nat}{A:Around} (r:Room k A):A.depth<recursionLimit:=by have:=r.dp;lia
theorem Room.units {k:Nat}{A:Around} (r:Room k A):A.units+64<cLine:=by have:=r.un;lia
def tNil:TA:=fun _ H Q=>Q [] H
def y4D (ta:TE) (tr:TA):TA:=fun σ H Q=>ta σ H fun x H1=>tr σ H1 fun xs H2=>Q (x::xs) H2
section
variable {X:Cx}{e:Expr}{es:List Expr}{te:TE}{t:TA}{pos:Pos}
theorem z0c:PA X [] tNil:=fun _ _ _ _ H Q I h=>Calls.spliced_nil ⟨[],H,I,.nil,h⟩
theorem z0a (ha:PE X e te) (hr:PA X es t) (hs:starEach (e::es) X.env=(false,eval e X.env)::starEach es X.env:=by rfl):PA X (e::es) (y4D te t):=by
 intro pos pins s σ H Q I h
 rw[hs]
 show wpAny _ _ (spliced ((false,eval e X.env)::backTo pos (starEach es X.env))) _ _ s
 refine Calls.spliced_cons (thn (ha pins s σ H _ I h) fun u s1 ⟨x,H1,I1,r1,q1⟩=>?_)
 exact thn (hr pos pins s1 σ H1 _ I1 q1) fun us s2 ⟨xs,H2,I2,r2,q2⟩=>⟨x::xs,H2,I2,.cons r1 r2,q2⟩
def tTup (t:TA):TE:=fun σ H Q=>t σ H fun xs H1=>xs.length≤sizeLine∧∀p,H1 p=none→Q (.ref p) (upd H1 p (.tup xs))
def tLst (t:TA):TE:=fun σ H Q=>t σ H fun xs H1=>xs.length≤sizeLine∧∀p,H1 p=none→Q (.ref p) (upd H1 p (.lst xs))
theorem z1P {x1} (h:PA X es t):PE X (.Tuple es x1 pos) (tTup t):=by
 intro pins s σ H Q I hq
 refine wpAny_Tuple_spliced (thn (h pos pins s σ H _ I hq) fun us s1 ⟨xs,H1,I1,r,z,q⟩=>⟨by rw[←r.length];exact z,?_⟩)
 have hf:H1 s1.heap.objs.size=none:=I1.hok.fresh (q0j _)
 refine⟨.ref s1.heap.objs.size,upd H1 s1.heap.objs.size (.tup xs),I1.laid (t':=s1.toks) (fun b u e=>q0d _ e) (q0j _) ?_,rfl,q _ hf⟩
 exact⟨z,us,r,⟨_,q0s _ rfl,rfl,_,rfl⟩⟩
theorem z0O (h:PA X es t):PE X (.List es pos) (tLst t):=by
 intro pins s σ H Q I hq
 refine wpAny_List_spliced (thn (h pos pins s σ H _ I hq) fun us s1 ⟨xs,H1,I1,r,z,q⟩=>⟨by rw[←r.length];exact z,?_⟩)
 have hf:H1 s1.heap.objs.size=none:=I1.hok.fresh (q0j _)
 refine⟨.ref s1.heap.objs.size,upd H1 s1.heap.objs.size (.lst xs),I1.laid (t':=s1.toks) (fun b u e=>q0d _ e) (q0j _) ?_,rfl,q _ hf⟩
 exact⟨z,us,0,r,q0s _ rfl⟩
end
abbrev Sp:=List V→Hp→VK→XK→Prop
abbrev CXT:=List Env→Hp→Shared→XK→Value→Shared→Prop
structure Env0 (P:Program) (w:World) (K:PySem.W.Frag) (mg:Str→Option Value) (base:Heap) (A:Around) (outer:List Env) (s:Shared) (H:Hp):Prop where
 frames:A.frames=some outer
 mod:Mod K mg base
 bs:∀b o,base.get? b=some o→s.heap.get? b=some o∧H b=none
 bsz:base.objs.size≤s.heap.objs.size
 funs:s.heap.FunFrames base outer
 frf:∀b∈frs outer,H b=none
 hok:HOk P w H s.heap
 bare:AllBare s.gens
def CE (outer:List Env) (P:Program) (w:World) (H:Hp) (s:Shared) (Q:VK) (u:Value) (s':Shared):Prop:=
 ∃v H',s'.os=s.os∧AllBare s'.gens∧Un (frs outer) [] H H' s.heap s'.heap∧HOk P w H' s'.heap∧RelV v u∧Q v H'
def CR (CX:CXT) (outer:List Env) (P:Program) (w:World) (H:Hp) (s:Shared) (Q:VK) (E:XK) (r:Result) (s':Shared):Prop:=
 match r with
 | .ok (.ret u)=>CE outer P w H s Q u s'
 | .ok _=>False
 | .error e=>CX outer H s E e s'
structure FnOk (P:Program) (w:World) (K:PySem.W.Frag) (mg:Str→Option Value) (base:Heap) (CX:CXT) (k:Nat) (f:Addr) (fd:FuncData) (ps:List Str) (sp:Sp):Prop where
 len:∀vs H Q E,sp vs H Q E→vs.length=ps.length
 run:∀(A:Around) (outer:List Env) (s:Shared) (H:Hp) (args:Args) (us:List Value) (vs:List V) (Q:VK) (E:XK),Room k A→Env0 P w K mg base A outer s H→BindsTo s fd args (ps.zip us)→Vals vs us→sp vs H Q E→
  codeAny (model P w) A (.call (.ref f) args) (CR CX outer P w H s Q E) s
theorem FnOk.mono {P:Program}{w:World}{K:PySem.W.Frag}{mg:Str→Option Value}{base:Heap}{CX:CXT}{j k:Nat}{f:Addr}{fd:FuncData}{ps:List Str}{sp:Sp} (F:FnOk P w K mg base CX j f fd ps sp) (h:j≤k):
 FnOk P w K mg base CX k f fd ps sp:=⟨F.len,fun A outer s H args us vs Q E hr=>F.run A outer s H args us vs Q E (hr.mono h)⟩
theorem FnOk.imp {P:Program}{w:World}{K:PySem.W.Frag}{mg:Str→Option Value}{base:Heap}{CX:CXT}{k:Nat}{f:Addr}{fd:FuncData}{ps:List Str}{sp sp':Sp} (F:FnOk P w K mg base CX k f fd ps sp)
 (h:∀vs H Q E,sp' vs H Q E→sp vs H Q E):FnOk P w K mg base CX k f fd ps sp':=
 ⟨fun vs H Q E q=>F.len vs H Q E (h _ _ _ _ q),fun A outer s H args us vs Q E hr he hb hv hs=>F.run A outer s H args us vs Q E hr he hb hv (h _ _ _ _ hs)⟩
theorem Env0.make {P:Program}{w:World}{K:PySem.W.Frag}{mg:Str→Option Value}{base:Heap}{A:Around}{outer:List Env}{s:Shared}{H:Hp} (e:Env0 P w K mg base A outer s H) (C:Addr) (us:List Value) (kw:List (Str×Value)):
 Env0 P w K mg base (A.under (.builtin "type.__call__" ⟨.ref C::us,kw⟩)) outer s H:=⟨by first|exact e.frames|(simpa[Around.under,Code.envs,Code.isFrame,pushEnvs] using e.frames),e.mod,e.bs,e.bsz,e.funs,e.frf,e.hok,e.bare⟩
theorem Env0.in1 {P:Program}{w:World}{K:PySem.W.Frag}{mg:Str→Option Value}{base:Heap}{A:Around}{outer:List Env}{s:Shared}{H:Hp} (e:Env0 P w K mg base A outer s H):
 Env0 P w K mg base A.in1 outer s H:=⟨e.frames,e.mod,e.bs,e.bsz,e.funs,e.frf,e.hok,e.bare⟩
section
variable {X:Cx}{pins:List (Addr×Obj)}{σ:St}{H:Hp}{s s':Shared}
theorem Inv.env0 (I:Inv X pins σ H s):Env0 X.prog X.w X.K X.mg X.base X.A X.stack s H:=
 ⟨I.ok.frames,I.ok.mod,I.bs,q0p I.ok.bsz I.sz,I.stack,I.stkFree,I.hok,I.bare⟩
theorem Inv.after {Q:VK}{u:Value} (I:Inv X pins σ H s) (h:CE X.stack X.prog X.w H s Q u s'):EP X pins σ Q u s':=by
 obtain⟨v,H',os,bare,un,hok,r,q⟩:=h
 obtain⟨hh,g,d,t,os'⟩:=s'
 obtain rfl:os'=s.os:=os
 exact⟨v,H',I.call (h':=hh) (g':=g) (d':=d) (t':=t) (ch:=[]) un hok bare (fun b z=>absurd z (by simp)),r,q⟩
end
def y6a (sp:Sp) (dvs:List V) (E:XK) (t:TA):TE:=fun σ H Q=>t σ H fun vs H1=>sp (vs++dvs) H1 Q E
def y5X (C:Addr) (m:Str) (sp:Sp) (dvs:List V) (E:XK) (ta:TE) (t:TA):TE:=fun σ H Q=>ta σ H fun x H1=>∃a dx fs,x= .ref a∧H1 a=some (.ins C dx fs)∧fs.lookup m=none∧
 t σ H1 fun vs H2=>sp (x::(vs++dvs)) H2 Q E
def tMake (C:Addr) (sp:Sp) (dvs:List V) (E:XK) (t:TA):TE:=fun σ H Q=>t σ H fun vs H1=>∀x dx,H1 x=none→H1 dx=none→dx≠x→
 sp (.ref x::(vs++dvs)) (upd (upd H1 dx (.own x)) x (.ins C dx [])) (fun v H2=>v= .non ∧Q (.ref x) H2) E
def Binds (K:PySem.W.Frag) (fd:FuncData) (ps:List Str) (ds:List Value):Prop:=
 ∀(s:Shared) (us:List Value),K.In s.heap→(us++ds).length =ps.length→BindsTo s fd ⟨us,[]⟩ (ps.zip (us++ds))
theorem Binds.all {K:PySem.W.Frag}{fd:FuncData}{ps:List Str} (h:∀us:List Value,us.length=ps.length→bindArgs fd ⟨us,[]⟩=pure (ps.zip us)):Binds K fd ps []:=fun s us _ hl=>by
 rw[List.append_nil] at hl ⊢
 exact .of_eq (h us hl)
def z4L (CX:CXT) (X:Cx) (E:XK):Prop:=∀(pins:List (Addr×Obj)) (σ:St) (H:Hp) (s:Shared) (e:Value) (s':Shared),Inv X pins σ H s→CX X.stack H s E e s'→X.xe e s'
section
variable {X:Cx}{CX:CXT}{k:Nat}{f C:Addr}{fd:FuncData}{ps:List Str}{sp:Sp}{dvs:List V}{ds:List Value}{E:XK}{x m:Str}{p pos apos:Pos}{e o:Expr}{es:List Expr}{ta:TE}{t:TA}
theorem y0W {pins:List (Addr×Obj)}{σ:St}{H:Hp}{s:Shared}{Q:VK}{us:List Value}{vs:List V} (F:FnOk X.prog X.w X.K X.mg X.base CX k f fd ps sp) (hr:Room k X.A) (hb:Binds X.K fd ps ds) (hd:Vals dvs ds) (hx:z4L CX X E)
 (I:Inv X pins σ H s) (r:Vals vs us) (h:sp (vs++dvs) H Q E):wpAny (model X.prog X.w) X.A (call (.ref f) us) (EP X pins σ Q) X.xe s:=by
 have r2:Vals (vs++dvs) (us++ds):=r.append hd
 have hl:(us++ds).length =ps.length:=by rw[←r2.length];exact F.len _ _ _ _ h
 refine wpAny_call (codeAny_mono (F.run X.A X.stack s H ⟨us,[]⟩ (us++ds) (vs++dvs) Q E hr I.env0 (hb s us I.kIn hl) r2 h) fun r s' hq=>?_)
 cases r with
 |error e=>exact hx pins σ H s e s' I hq
 |ok fl=>
  cases fl with
  |ret u=>exact I.after hq
  |next=>exact False.elim hq
  |brk=>exact False.elim hq
  |cont=>exact False.elim hq
theorem y4V (F:FnOk X.prog X.w X.K X.mg X.base CX k f fd ps sp) (hr:Room k X.A) (hg:Gl X x) (hm:X.mg x=some (.ref f)) (hk:PySem.W.keepIn X.K (.ref f)=true) (hb:Binds X.K fd ps ds) (hd:Vals dvs ds) (hx:z4L CX X E)
 (ha:PA X (e::es) t) (hdb:(x==("__debug__":Str))=false:=by decide) (he:starEach (e::es) X.env=(false,eval e X.env)::starEach es X.env:=by rfl) (hpl:(backTo pos (starEach es X.env)).any (·.1)=false:=by rfl):
 PE X (.Call (.Name x p) (e::es) [] pos) (y6a sp dvs E t):=by
 intro pins s σ H Q I h
 refine wpAny_Call_Name_kw (z8c I hg hm ?_ hdb)
 refine PySem.W.callWith_K (h₀:=X.base) I.ok.mod.kin hk (thn (ha pos pins s σ H _ I h) fun us s1 ⟨vs,H1,I1,r,q⟩=>⟨I1.kIn,?_⟩) he hpl
 exact y0W F hr hb hd hx I1 r q
theorem y1i {pl:Sem Bool} (he:PE X o ta) (c:Cls X.K C) (hm:y3S X.K C m f) (F:FnOk X.prog X.w X.K X.mg X.base CX k f fd ps sp) (hr:Room k X.A) (hb:Binds X.K fd ps ds) (hd:Vals dvs ds) (hx:z4L CX X E) (ha:PA X (e::es) t)
 (hst:starEach (e::es) X.env=(false,eval e X.env)::starEach es X.env:=by rfl) (hpl:(backTo pos (starEach es X.env)).any (·.1)=false:=by rfl)
 (ht:eval (.Call (.Attribute o m apos) (e::es) [] pos) X.env=(do
  let ov ←eval o X.env
  standAt apos.atName
  let (f,first) ←holding [ov] (getMethod ov m pl)
  callWith pos f first (backTo pos (starEach (e::es) X.env)) (backToKw pos (keywordEach [] X.env))):=by rfl):
 PE X (.Call (.Attribute o m apos) (e::es) [] pos) (y5X C m sp dvs E ta t):=by
 intro pins s σ H Q I h
 refine PySem.W.methodCall_KW (pl:=pl) (thn (he pins s σ H _ I h) fun u s1 ⟨x,H1,I1,rx,a,dx,fs,ex,ea,l,q⟩=>?_) ht
 subst ex
 obtain rfl:u=Value.ref a:=rx
 refine z5o I1 ea c hm l ?_
 refine PySem.W.callWith_K (first:=[.ref a]) (h₀:=X.base) I.ok.mod.kin hm.kp (thn (ha pos pins s1 σ H1 _ I1 q) fun us s2 ⟨vs,H2,I2,r,q2⟩=>⟨I2.kIn,?_⟩) hst hpl
 exact y0W (us:= .ref a::us) (vs:= .ref a::vs) F hr hb hd hx I2 (.cons rfl r) q2
theorem z2l {pl:Sem Bool} (he:PE X o ta) (c:Cls X.K C) (hm:y3S X.K C m f) (F:FnOk X.prog X.w X.K X.mg X.base CX k f fd ps sp) (hr:Room k X.A) (hb:Binds X.K fd ps ds) (hd:Vals dvs ds) (hx:z4L CX X E)
 (ht:eval (.Call (.Attribute o m apos) [] [] pos) X.env=(do
  let ov ←eval o X.env
  standAt apos.atName
  let (f,first) ←holding [ov] (getMethod ov m pl)
  callWith pos f first (backTo pos (starEach [] X.env)) (backToKw pos (keywordEach [] X.env))):=by rfl):
 PE X (.Call (.Attribute o m apos) [] [] pos) (y5X C m sp dvs E ta tNil):=by
 intro pins s σ H Q I h
 refine PySem.W.methodCall_KW (pl:=pl) (thn (he pins s σ H _ I h) fun u s1 ⟨x,H1,I1,rx,a,dx,fs,ex,ea,l,q⟩=>?_) ht
 subst ex
 obtain rfl:u=Value.ref a:=rx
 refine z5o I1 ea c hm l ?_
 exact PySem.W.callWith_K0 (first:=[.ref a]) I1.kIn hm.kp (y0W (us:=[.ref a]) (vs:=[.ref a]) F hr hb hd hx I1 (.cons rfl .nil) q)
structure Mk (K:PySem.W.Frag) (C f:Addr):Prop where
 makes:PySem.W.makesIn K C=true
 init:PySem.W.findIn K (.ref C) "__init__"=some (some (.ref f))
 fn:PySem.W.isFn K (.ref f)=true
 kp:PySem.W.keepIn K (.ref C)=true
theorem y2X {pins:List (Addr×Obj)}{σ:St}{H:Hp}{s:Shared}{Q:VK}{us:List Value}{vs:List V} (M:Mk X.K C f) (F:FnOk X.prog X.w X.K X.mg X.base CX k f fd ps sp) (hr:Room (k+1) X.A) (hb:Binds X.K fd ps ds) (hd:Vals dvs ds)
 (hx:z4L CX X E) (I:Inv X pins σ H s) (r:Vals vs us)
 (h:∀x dx,H x=none→H dx=none→dx≠x→sp (.ref x::(vs++dvs)) (upd (upd H dx (.own x)) x (.ins C dx [])) (fun v H2=>v= .non ∧Q (.ref x) H2) E):
 wpAny (model X.prog X.w) X.A (call (.ref C) us) (EP X pins σ Q) X.xe s:=by
 have hq:=h (s.heap.objs.size+1) s.heap.objs.size (I.hok.fresh (q1v _)) (I.hok.fresh (q0j _)) (q0w (Nat.lt_succ_self _))
 have I2:=Inv.made (C:=C) I
 have r2:Vals (V.ref (s.heap.objs.size+1)::(vs++dvs)) (Value.ref (s.heap.objs.size+1)::(us++ds)):= .cons rfl (r.append hd)
 have hl:(Value.ref (s.heap.objs.size+1)::us++ds).length =ps.length:=by
  have e:=r2.length
  rw[F.len _ _ _ _ hq] at e
  exact e.symm
 refine wpAny_call (y3v (f:=f) I.kIn M.makes M.init (beq_iff_eq.mp M.fn) (codeAny_mono (F.run _ X.stack _ _ ⟨Value.ref (s.heap.objs.size+1)::us,[]⟩ (Value.ref (s.heap.objs.size+1)::(us++ds)) _ _ E (hr.make C us [])
  (I2.env0.make C us []) (hb _ (Value.ref (s.heap.objs.size+1)::us) I2.kIn hl) r2 hq) fun r s' hq'=>?_))
 cases r with
 |error e=>exact hx pins σ _ _ e s' I2 hq'
 |ok fl=>
  cases fl with
  |ret u=>
   obtain⟨v,H',I3,rv,ev,q3⟩:=I2.after hq'
   subst ev
   exact⟨rv,⟨V.ref (s.heap.objs.size+1),H',I3,rfl,q3⟩⟩
  |next=>exact False.elim hq'
  |brk=>exact False.elim hq'
  |cont=>exact False.elim hq'
theorem y1j (M:Mk X.K C f) (F:FnOk X.prog X.w X.K X.mg X.base CX k f fd ps sp) (hr:Room (k+1) X.A) (hg:Gl X x) (hm:X.mg x=some (.ref C)) (hb:Binds X.K fd ps ds) (hd:Vals dvs ds) (hx:z4L CX X E)
 (ha:PA X (e::es) t) (hdb:(x==("__debug__":Str))=false:=by decide) (he:starEach (e::es) X.env=(false,eval e X.env)::starEach es X.env:=by rfl) (hpl:(backTo pos (starEach es X.env)).any (·.1)=false:=by rfl):
 PE X (.Call (.Name x p) (e::es) [] pos) (tMake C sp dvs E t):=by
 intro pins s σ H Q I h
 refine wpAny_Call_Name_kw (z8c I hg hm ?_ hdb)
 refine PySem.W.callWith_K (h₀:=X.base) I.ok.mod.kin M.kp (thn (ha pos pins s σ H _ I h) fun us s1 ⟨vs,H1,I1,r,q⟩=>⟨I1.kIn,?_⟩) he hpl
 exact y2X M F hr hb hd hx I1 r q
end
def PK (X:Cx) (kws:List Keyword) (t:TA):Prop:=
 ∀(pos:Pos) (pins:List (Addr×Obj)) (s:Shared) (σ:St) (H:Hp) (Q:List V→Hp→Prop),Inv X pins σ H s→t σ H Q→wpAny (model X.prog X.w) X.A (evalAll ((backToKw pos (keywordEach kws X.env)).map (·.2))) (AP X pins σ Q) X.xe s
section
variable {X:Cx}{CX:CXT}{k:Nat}{f C:Addr}{fd:FuncData}{ps ks:List Str}{sp:Sp}{E:XK}{x m:Str}{p pos apos kpos:Pos}{e o:Expr}{es:List Expr}{kws:List Keyword}{te ta:TE}{t tk:TA}{nm:Option Str}
theorem y6l:PK X [] tNil:=fun _ _ _ _ H Q I h=>wpAny_evalAll_nil ⟨[],H,I,.nil,h⟩
theorem y4R (ha:PE X e te) (hr:PK X kws t):PK X (⟨nm,e,kpos⟩::kws) (y4D te t):=by
 intro pos pins s σ H Q I h
 show wpAny _ _ (evalAll ((do let v ←eval e X.env;standAt pos;pure v)::(backToKw pos (keywordEach kws X.env)).map (·.2))) _ _ s
 refine wpAny_evalAll_cons (wpAny_bind (thn (ha pins s σ H _ I h) fun u s1 ⟨x,H1,I1,r1,q1⟩=>wpAny_bind (wpAny_standAt (wpAny_pure ?_))))
 exact thn (hr pos pins s1 σ H1 _ I1 q1) fun us s2 ⟨xs,H2,I2,r2,q2⟩=>⟨x::xs,H2,I2,.cons r1 r2,q2⟩
variable {g:List Value→List Value→List Value}{gV:List V→List V→List V}
end
structure z0q (N P:List Str) (sc:Scope):Prop where
 kind:sc.kind= .function
 co:sc.isCoroutine=false
 gen:sc.isGenerator=false
 nd:N.Nodup
 pre:N.take P.length=P
 par:∀x∈P,sc.names.lookup x=some .local ∨sc.names.lookup x=some .cell
 nofree:∀y∈sc.names,y.2≠ .free
theorem z7n {kindOf:Str→Option NameKind}{x:Str}:∀{binds:List (Str×Value)}{m:Str→Option Value},(∀v,(x,v)∉binds)→bindL kindOf binds m x=m x
 |[],_,_=>rfl
 |(n,v)::r,m,h=>by
  unfold bindL
  rw[z7n fun w hw=>h w (q0f _ hw)]
  split
  ·have:x≠n:=by rintro rfl;exact h v q0k
   simp[this]
  ·rfl
theorem z7p {kindOf:Str→Option NameKind}{x:Str}:∀{binds:List (Str×Value)}{m:Str→Option Value},(∀v,(x,v)∉binds)→bindC kindOf binds m x=m x
 |[],_,_=>rfl
 |(n,v)::r,m,h=>by
  unfold bindC
  rw[z7p fun w hw=>h w (q0f _ hw)]
  split
  ·rfl
  ·have:x≠n:=by rintro rfl;exact h v q0k
   simp[this]
theorem z7o {kindOf:Str→Option NameKind}{x:Str}{v:Value}:∀{P:List Str}{vs:List Value}{i:Nat}{m:Str→Option Value},P.Nodup→P[i]? =some x→vs[i]? =some v→kindOf x=some .local →
 bindL kindOf (P.zip vs) m x=some v
 |[],_,_,_,_,h,_,_=>by simp at h
 |_::_,[],_,_,_,_,h,_=>by simp at h
 |p::P,w::vs,0,m,nd,h1,h2,hk=>by
  simp at h1 h2;subst h1;subst h2
  show bindL kindOf ((p,w)::P.zip vs) m p=_
  unfold bindL
  rw[z7n fun v hv=>(List.nodup_cons.mp nd).1 (q1o hv).1,if_pos hk]
  simp
 |p::P,w::vs,i+1,m,nd,h1,h2,hk=>by
  show bindL kindOf ((p,w)::P.zip vs) m x=_
  unfold bindL
  exact z7o (i:=i) (List.nodup_cons.mp nd).2 (by simpa using h1) (by simpa using h2) hk
theorem z7q {kindOf:Str→Option NameKind}{x:Str}{v:Value}:∀{P:List Str}{vs:List Value}{i:Nat}{m:Str→Option Value},P.Nodup→P[i]? =some x→vs[i]? =some v→kindOf x≠some .local →
 bindC kindOf (P.zip vs) m x=some v
 |[],_,_,_,_,h,_,_=>by simp at h
 |_::_,[],_,_,_,_,h,_=>by simp at h
 |p::P,w::vs,0,m,nd,h1,h2,hk=>by
  simp at h1 h2;subst h1;subst h2
  show bindC kindOf ((p,w)::P.zip vs) m p=_
  unfold bindC
  rw[z7p fun v hv=>(List.nodup_cons.mp nd).1 (q1o hv).1,if_neg hk]
  simp
 |p::P,w::vs,i+1,m,nd,h1,h2,hk=>by
  show bindC kindOf ((p,w)::P.zip vs) m x=_
  unfold bindC
  exact z7q (i:=i) (List.nodup_cons.mp nd).2 (by simpa using h1) (by simpa using h2) hk
def z6y (N:List Str) (vs:List V):St:=vs.map some++List.replicate (N.length - vs.length) none
def y5Q (CX:CXT) (P:Program) (w:World) (K:PySem.W.Frag) (mg:Str→Option Value) (base:Heap) (N:List Str) (qual:Str) (scope:Scope) (f:Addr) (cd:Value) (A:Around) (outer:List Env) (s:Shared) (H:Hp) (E:XK):Cx where
 prog:=P
 w:=w
 K:=K
 mg:=mg
 base:=base
 A:=A.deeper (envOfC qual scope s.heap.objs.size f cd)
 N:=N
 s₀:=s
 H₀:=H
 env:=envOfC qual scope s.heap.objs.size f cd
 outer:=outer
 stack:=envOfC qual scope s.heap.objs.size f cd::outer
 ex:=[]
 calm:=true
 fn:=fun _=>true
 pn:=[]
 xe:=fun e s'=>wpAny (model P w) (A.deeper (envOfC qual scope s.heap.objs.size f cd)) (leaving (envOfC qual scope s.heap.objs.size f cd) e) (fun _ s''=>CX outer H s E e s'') (fun e' s''=>CX outer H s E e' s'') s'
theorem z9i {sc:Scope}{n:Nat}{x:Str} (h:sc.names.lookup x=some .cell):∃c,(cellsFrom n sc.names []).lookup x=some c:=by
 have q:=PySem.W.cellsFrom_some sc.names n [] (.inl h)
 exact Option.isSome_iff_exists.mp q
theorem y1R {CX:CXT}{P:Program}{w:World}{K:PySem.W.Frag}{mg:Str→Option Value}{base:Heap}{N ps:List Str}{qual:Str}{scope:Scope}{f:Addr}{cd:Value}{A:Around}{outer:List Env}{s s1:Shared}{H:Hp}{E:XK}{us:List Value}{vs:List V}
 (S:z0q N ps scope) (hd:A.handled=none) (e0:Env0 P w K mg base A outer s H) (hl:vs.length=ps.length) (r:Vals vs us)
 (x:InCallC s s.heap.objs.size (bindL (envOfC qual scope s.heap.objs.size f cd).kindOf (ps.zip us) fun _=>none) (cellsFrom (s.heap.objs.size+1) scope.names []) (bindC (envOfC qual scope s.heap.objs.size f cd).kindOf (ps.zip us) fun _=>none) s1):
 Inv (y5Q CX P w K mg base N qual scope f cd A outer s H E) [] (z6y N vs) H s1:=by
 have hpl:ps.length≤N.length:=by have:=congrArg List.length S.pre;rw[q0o] at this;lia
 obtain⟨h1,tk,rfl,hk⟩:=x.done
 have noA:∀b:Addr,b∉(y5Q CX P w K mg base N qual scope f cd A outer s H E).ex :=fun b z=>absurd (show b∈([]:List Addr) from z) (by simp)
 refine⟨⟨e0.mod,S.kind,rfl,rfl,q0j _,fun y z c h1 h2=>?_,fun y hy=>?_,fun y c _ h=>?_,fun _=>hd,Around.frames_deeper e0.frames,.inr ⟨rfl,rfl⟩,fun b z=>absurd z (noA b),e0.bs,e0.bsz,fun b _ _=>noA b,fun b z=>absurd z (noA b),e0.funs,e0.frf⟩,
  rfl,e0.bare,Un.kept hk,⟨_,x.toInCall.ns,fun i y v h1 h2 h3=>?_⟩,fun y c h=>⟨_,x.cell y c h⟩,e0.hok.fresh (q0j _),fun y c h=>?_,fun p hp=>absurd (show p∈([]:List (Addr×Obj)) from hp) (by simp),e0.hok.kept hk,?_⟩
 ·exact name_of_addr x.apart (PySem.mem_of_lookup h1) (PySem.mem_of_lookup h2)
 ·have hy:scope.names.lookup y=some .cell ∨scope.names.lookup y=some .free :=hy
  rcases hy with hy|hy
  ·exact z9i hy
  ·exact absurd rfl (S.nofree _ (PySem.mem_of_lookup hy))
 ·exact Nat.le_of_lt (x.above y c (PySem.mem_of_lookup h))
 ·have hi:i<vs.length:=by
   unfold z6y at h2
   by_cases hi:i<vs.length
   ·exact hi
   ·rw[q0D (by simpa using hi)] at h2
    rw[List.getElem?_replicate] at h2
    split at h2<;>cases h2
  have ha:vs[i]? =some v:=by
   unfold z6y at h2
   rw[q0L (by simpa using hi),q0h] at h2
   cases e:vs[i]? with
   |none=>rw[e] at h2;cases h2
   |some a=>rw[e] at h2;cases h2;rfl
  obtain⟨u,hu,rv⟩:=r.get ha
  have hp:ps[i]? =some y:=by
   rw[←S.pre,q1s (by lia)];exact h1
  have ndP:ps.Nodup:=by rw[←S.pre];exact S.nd.sublist (List.take_sublist _ _)
  refine⟨u,rv,?_⟩
  rcases S.par y (q0E hp) with k|k
  ·exact .inl ⟨k,z7o ndP hp hu k⟩
  ·obtain⟨c,e⟩:=z9i (n:=s.heap.objs.size+1) k
   refine .inr ⟨.inl k,c,e,?_⟩
   have q:=x.cell y c e
   rw[z7q ndP hp hu (by show scope.names.lookup y≠_;rw[k];decide)] at q
   exact q
 ·exact e0.hok.fresh (Nat.le_of_lt (x.above y c (PySem.mem_of_lookup h)))
 ·unfold z6y
  show _=N.length
  rw[q0n,q0a,q1p]
  lia
theorem fn_of {CX:CXT}{P:Program}{w:World}{K:PySem.W.Frag}{mg:Str→Option Value}{base:Heap}{k:Nat}{f:Addr}{name qual:Str}{params:Arguments}{body:List Stmt}{scope:Scope}{dV kV doc pm cdv ct oc:Value}{an od:Option Addr}
 {osl:Array (Option Value)}{N ps:List Str}{sp:Sp} (lk:K.lookup f=some ⟨oc,od,.func (PySem.W.fnOf name qual params body scope dV kV doc pm an cdv ct),osl⟩) (hcd:PySem.W.codeIn K cdv qual=true) (S:z0q N ps scope)
 (len:∀vs H Q E,sp vs H Q E→vs.length=ps.length)
 (hbody:∀(A:Around) (outer:List Env) (s:Shared) (H:Hp) (vs:List V) (Q:VK) (E:XK),Room k (A.deeper (envOfC qual scope s.heap.objs.size f cdv))→sp vs H Q E→
  ∃t,PSs (y5Q CX P w K mg base N qual scope f cdv A outer s H E) body t∧t {nx:=fun _ H'=>Q .non H',rt:=Q} (z6y N vs) H):
 FnOk P w K mg base CX (k+1) f (PySem.W.fnOf name qual params body scope dV kV doc pm an cdv ct) ps sp:=by
 refine⟨len,fun A outer s H args us vs Q E hr e0 hb r hsp=>?_⟩
 have hl:=len _ _ _ _ hsp
 have KX:K.In s.heap:=e0.mod.kin.keeps fun b o e=>(e0.bs b o e).1
 have lim:s.heap.NoLimit:=e0.mod.nolimit.keeps fun b o e=>(e0.bs b o e).1
 have hkind:∀y∈ps.zip us,scope.names.lookup y.1=some .local ∨(scope.names.lookup y.1=some .cell ∧((cellsFrom (s.heap.objs.size+1) scope.names []).lookup y.1).isSome =true):=fun⟨n,v⟩ hy=>by
  rcases S.par n (q1o hy).1 with q|q
  ·exact .inl q
  ·exact .inr ⟨q,PySem.W.cellsFrom_some _ _ _ (.inl q)⟩
 refine codeAny_call_function hr.depth (KX _ _ lk) rfl S.co S.gen rfl (PySem.W.codeRec_of KX hcd) (hb _ _ _ _ ?_)
 refine wpAny_newFunctionEnv_cells S.kind hkind fun env he s1 x=>?_
 subst he
 refine⟨lim.keeps x.toInCall.keep,codeAny_func ?_⟩
 obtain⟨t,ht,hq⟩:=hbody A outer s H vs Q E (hr.deeper _) hsp
 have I:Inv (y5Q CX P w K mg base N qual scope f cdv A outer s H E) [] (z6y N vs) H s1:=y1R S hr.hd e0 hl r x
 refine wpAny_mono (ht [] s1 (z6y N vs) H _ I hq) (fun fl s' hs=>?_) fun e s' hs=>hs
 have fin:∀{σ':St}{H':Hp}{v:V}{u:Value},Inv (y5Q CX P w K mg base N qual scope f cdv A outer s H E) [] σ' H' s'→RelV v u→Q v H'→CE outer P w H s Q u s':=
  fun {σ' H' v u} J rv q=>⟨v,H',J.os,J.bare,J.base,J.hok,rv,q⟩
 cases fl with
 |ret u=>
  obtain⟨v,σ',H',J,rv,q⟩:=hs
  exact fin J rv q
 |next=>
  obtain⟨σ',H',J,q⟩:=hs
  exact fin (v:=V.non) (u:=Value.none) J rfl q
 |brk=>
  obtain⟨_,_,_,q⟩:=hs
  exact False.elim q
 |cont=>
  obtain⟨_,_,_,q⟩:=hs
  exact False.elim q
end L2
namespace L2
open PySem PySem.Spec PyProof.Rows
section
variable {X:Cx}{x:Str}{p pos:Pos}{e:Expr}{es:List Expr}{t:TA}{id T:String}{r:List V→Hp→VK→Prop}
def tCB (r:List V→Hp→VK→Prop) (t:TA):TE:=fun σ H Q=>t σ H fun vs H1=>r vs H1 Q
theorem z0x (hc:z2t X (.builtin id) r) (hg:Gl X x) (hm:X.mg x=none) (hv:bootBuiltins x=some (.builtin id)) (ha:PA X (e::es) t) (hn:x≠"__name__":=by decide) (hdb:(x==("__debug__":Str))=false:=by decide)
 (he:starEach (e::es) X.env=(false,eval e X.env)::starEach es X.env:=by rfl) (hpl:(backTo pos (starEach es X.env)).any (·.1)=false:=by rfl):PE X (.Call (.Name x p) (e::es) [] pos) (tCB r t):=by
 intro pins s σ H Q I h
 refine wpAny_Call_Name_kw (z3D I hg hm hv ?_ hn hdb)
 exact PyProof.Rows.callWith_builtin1 (thn (ha pos pins s σ H _ I h) fun us s1 ⟨vs,H1,I1,r1,q1⟩=>hc pins s1 σ H1 vs us Q I1 r1 q1) he hpl
theorem z1i (hc:z2t X (.type T) r) (hg:Gl X x) (hm:X.mg x=none) (hv:bootBuiltins x=some (.type T)) (ha:PA X (e::es) t) (hn:x≠"__name__":=by decide) (hdb:(x==("__debug__":Str))=false:=by decide)
 (he:starEach (e::es) X.env=(false,eval e X.env)::starEach es X.env:=by rfl) (hpl:(backTo pos (starEach es X.env)).any (·.1)=false:=by rfl):PE X (.Call (.Name x p) (e::es) [] pos) (tCB r t):=by
 intro pins s σ H Q I h
 refine wpAny_Call_Name_kw (z3D I hg hm hv ?_ hn hdb)
 exact PyProof.Rows.callWith_type1 (thn (ha pos pins s σ H _ I h) fun us s1 ⟨vs,H1,I1,r1,q1⟩=>hc pins s1 σ H1 vs us Q I1 r1 q1) he hpl
end
end L2
namespace HT
open PySem PyProof.Rows
section
open PySem.SeqAt
open PySem.AutoSeq1 (wpAny_loadPart')
open PySem.MeetsSeq PySem.MeetsSeq2 PySem.MeetsSeq3
end
section
variable {prog:Program}{w:World}{A:Around}{E:Value→Shared→Prop}{s:Shared}
theorem cat_tup {t b:Addr}{vs ws:List Value}{Q:Value→Shared→Prop} (ht:IsTup s.heap t vs.toArray) (hb:IsTup s.heap b ws.toArray) (hv:vs≠[])
 (h1:ws=[]→Q (.ref t) s) (h2:ws≠[]→Q (.ref s.heap.objs.size) {s with heap:=s.heap.push {cls:= .type "tuple",data:= .seq (vs++ws).toArray}})
 (hsz:vs.length+ws.length≤sizeLine):wpAny (model prog w) A (binaryOp .Add (.ref t) (.ref b)) Q E s:=by
 obtain⟨⟨cls,dd,data,sl⟩,ho,hc,n,hd⟩:=id ht
 obtain⟨⟨cls2,dd2,data2,sl2⟩,ho2,hc2,n2,hd2⟩:=id hb
 simp only at hc hd hc2 hd2
 subst hc hd hc2 hd2
 have e:vs.toArray++ws.toArray=(vs++ws).toArray :=by simp
 by_cases hw:ws=[]
 ·exact concat_meets ⟨_,ho,rfl⟩ ⟨_,ho2,rfl⟩ noFill_tuple_add seq_tuple_add PySem.F.slot_tuple_add PySem.F.entry_tuple_add (PySem.F.args_tuple_add_2 _ _)
   (tuple_addW1 t b vs.toArray ws.toArray n n2 dd dd2 sl sl2 (by simpa using hv) (by simp[hw])) ⟨ho,ho2,h1 hw⟩
 ·refine concat_meets ⟨_,ho,rfl⟩ ⟨_,ho2,rfl⟩ noFill_tuple_add seq_tuple_add PySem.F.slot_tuple_add PySem.F.entry_tuple_add (PySem.F.args_tuple_add_2 _ _)
   (tuple_addW2 t b vs.toArray ws.toArray n n2 dd dd2 sl sl2 (by simpa using hv) (by simpa using hw) (by rw[q0e,q0e];exact hsz)) ⟨ho,ho2,?_⟩
  rw[e]
  exact h2 hw
def sIx (n d:Nat):Option Int→Nat
 |none=>d
 |some v=>if v<0 then (v+(n:Int)).toNat else min v.toNat n
theorem sIx_none (n d:Nat):sIx n d none=d:=rfl
theorem sIx_nat (n d k:Nat):sIx n d (some (k:Int))=min k n:=by
 show (if (k:Int)<0 then ((k:Int)+(n:Int)).toNat else min (k:Int).toNat n)=min k n
 rw[if_neg (by lia),q0J]
theorem y6e (n d:Nat) (hd:d≤n) (o:Option Int):sIx n d o≤n:=by
 cases o with
 |none=>exact hd
 |some v=>
  show (if v<0 then (v+(n:Int)).toNat else min v.toNat n)≤n
  by_cases hv:v<0
  ·rw[if_pos hv];lia
  ·rw[if_neg hv];exact Nat.min_le_right _ _
theorem y2t (v:Int) (n d:Nat):(if v<0 then max (v+(n:Int)) 0 else min v (n:Int))=((sIx n d (some v):Nat):Int):=by
 show (if v<0 then max (v+(n:Int)) 0 else min v (n:Int))=(((if v<0 then (v+(n:Int)).toNat else min v.toNat n):Nat):Int)
 by_cases hv:v<0
 ·simp only[if_pos hv];lia
 ·simp only[if_neg hv];lia
theorem y0j (lo hi:Option Int) (n:Nat):Builtin.Slice.sliceAdjust lo hi 1 (n:Int)=(((sIx n 0 lo:Nat):Int),((sIx n n hi:Nat):Int)):=by
 have h1:¬((1:Int)<0):=by lia
 unfold Builtin.Slice.sliceAdjust
 simp only[h1,if_false]
 refine Prod.ext ?_ ?_
 ·cases lo with
  |none=>rfl
  |some v=>exact y2t v n 0
 ·cases hi with
  |none=>rfl
  |some v=>exact y2t v n n
theorem z9x (i j:Nat):Builtin.Slice.slicePlaces (i:Int) (j:Int) 1=j - i:=by
 unfold Builtin.Slice.slicePlaces
 have h1:(1:Int)>0:=by lia
 simp only[h1,if_true,Int.ediv_one]
 split<;>lia
theorem z5a {v:Value}{o:Option Int}{Q:Option Int→Shared→Prop} (p:IsPart v o) (h:Q o s):wpAny (model prog w) A (Builtin.Slice.slicePartIndex v) Q E s:=by
 cases p with
 |none=>exact slicePart_none h
 |int i t=>exact slicePart_int h
theorem z3F {sl:Addr}{vl vu:Value}{lo hi:Option Int}{n:Nat}{Q:Int×Int×Nat→Shared→Prop} (hs:s.heap.IsSliceOf sl vl vu .none) (pl:IsPart vl lo) (pu:IsPart vu hi)
 (h:Q (((sIx n 0 lo:Nat):Int),1,sIx n n hi - sIx n 0 lo) s):wpAny (model prog w) A (Builtin.Slice.sliceApplied (.ref sl) (pure (n:Int))) Q E s:=by
 obtain⟨os,hos,hcs,hds⟩:=id hs
 unfold Builtin.Slice.sliceApplied Builtin.Slice.sliceFields
 refine wpAny_bind (wpAny_bind (wpAny_field hos hds (x:=vl) rfl (wpAny_bind (wpAny_field hos hds (x:=vu) rfl (wpAny_bind (wpAny_field hos hds (x:= .none) rfl (wpAny_pure ?_)))))))
 refine wpAny_bind (slicePart_none ?_)
 show wpAny _ _ (if ((1:Int)==0)=true then _ else _) _ _ s
 rw[if_neg (by decide)]
 refine wpAny_bind (z5a pl (wpAny_bind (z5a pu (wpAny_bind (wpAny_pure ?_)))))
 show wpAny _ _ (match Builtin.Slice.sliceAdjust lo hi 1 (n:Int) with|(lo,hi)=>pure (lo,(1:Int),Builtin.Slice.slicePlaces lo hi 1)) _ _ s
 rw[y0j lo hi n]
 show wpAny _ _ (pure (((sIx n 0 lo:Nat):Int),(1:Int),Builtin.Slice.slicePlaces ((sIx n 0 lo:Nat):Int) ((sIx n n hi:Nat):Int) 1)) _ _ s
 rw[z9x]
 exact wpAny_pure h
theorem y3c (xs:Array Value) (i k:Nat):((List.range k).filterMap fun (m:Nat)=>xs[((i:Int)+(m:Int)*1).toNat]?).toArray =((xs.toList.drop i).take k).toArray :=by
 have e:(fun (m:Nat)=>xs[((i:Int)+(m:Int)*1).toNat]?)=fun m=>xs[i+m]? :=by
  funext m
  have:((i:Int)+(m:Int)*1).toNat =i+m:=by lia
  rw[this]
 rw[e]
 have:=pick_run xs i k
 rw[List.filterMap_map] at this
 have e2:((fun x=>xs[x]?)∘fun x=>i+x)=fun m=>xs[i+m]? :=rfl
 rw[e2] at this
 rw[this]
theorem getItem_tuple_cut {t sl:Addr}{items:Array Value}{vl vu:Value}{lo hi:Option Int}{Q:Value→Shared→Prop} (ht:IsTup s.heap t items) (hs:s.heap.IsSliceOf sl vl vu .none) (pl:IsPart vl lo) (pu:IsPart vu hi)
 (hw:¬(sIx items.size 0 lo=0∧sIx items.size items.size hi=items.size))
 (h:Q (.ref s.heap.objs.size) {s with heap:=s.heap.push {cls:= .type "tuple",data:= .seq ((items.toList.drop (sIx items.size 0 lo)).take (sIx items.size items.size hi - sIx items.size 0 lo)).toArray}})
 (hsz:items.size≤sizeLine):wpAny (model prog w) A (getItem (.ref t) (.ref sl)) Q E s:=by
 have htake:sizeOk (.seq ((items.toList.drop (sIx items.size 0 lo)).take (sIx items.size items.size hi - sIx items.size 0 lo)).toArray):=by
  show ((items.toList.drop (sIx items.size 0 lo)).take (sIx items.size items.size hi - sIx items.size 0 lo)).toArray.size ≤sizeLine
  rw[q0e,q0o,q1K,q1z]
  lia
 have hj:sIx items.size items.size hi≤items.size:=y6e _ _ (q0j _) hi
 obtain⟨os,hos,hcs,hds⟩:=id hs
 have hTs:s.TypeIs (.ref sl) "slice":=⟨os,hos,hcs⟩
 unfold getItem
 try with_reducible refine wpAny_holding ?_
 first|refine wpAny_bind (wpAny_pure ?_)|skip
 refine wpAny_bind (wpAny_sequenceKey ht.typeIs (by decide) ?_)
 refine wpAny_bind (wpAny_callSpecial?_slot (name:=Str.ofString "__getitem__") ht.typeIs PyProof.Rows.slot_tuple_getitem
  (wpAny_call_entry PyProof.Rows.slot_tuple_getitem ht.typeIs entry_tuple_getitem ?_ (args_tuple_getitem _ _)))
 show wpAny _ _ (Builtin.Tuple.tupleItemsOf (.ref t)>>= _) _ _ s
 refine wpAny_bind (tupleItemsOf_ ht ?_)
 refine wpAny_bind (wpAny_typeOf hTs ?_)
 rw[if_pos (by decide)]
 refine wpAny_bind (z3F hs pl pu ?_)
 have hno:¬((((sIx items.size 0 lo:Nat):Int)==0&&(1:Int)==1&&(sIx items.size items.size hi - sIx items.size 0 lo)==items.size)=true):=by
  intro q
  rw[q1l,q1l] at q
  have q1:((sIx items.size 0 lo:Nat):Int)=0:=eq_of_beq q.1.1
  have q2:sIx items.size items.size hi - sIx items.size 0 lo=items.size:=eq_of_beq q.2
  exact hw ⟨by lia,by lia⟩
 show wpAny _ _ (if (((sIx items.size 0 lo:Nat):Int)==0&&(1:Int)==1&&(sIx items.size items.size hi - sIx items.size 0 lo)==items.size)=true then _ else _) _ _ s
 rw[if_neg hno,y3c]
 first
  |exact wpAny_bind (m:=Builtin.Tuple.tupleExact _) (wpAny_newObj_type (wpAny_pure ⟨_,rfl,wpAny_pure h⟩) htake)
  |exact wpAny_bind (m:=Builtin.Tuple.tupleExact _) (wpAny_newObj_type (wpAny_bind (wpAny_pure (wpAny_pure ⟨_,rfl,wpAny_pure h⟩))) htake)
  |exact wpAny_bind (wpAny_bind (m:=Builtin.Tuple.tupleExact _) (wpAny_newObj_type (wpAny_pure (wpAny_pure ⟨_,rfl,wpAny_pure h⟩)) htake))
  |exact wpAny_bind (wpAny_bind (m:=Builtin.Tuple.tupleExact _) (wpAny_newObj_type (wpAny_pure ⟨_,rfl,wpAny_pure h⟩) htake))
end
end HT
namespace L2
open PySem PySem.Spec PyProof.Rows
abbrev TO:=St→Hp→(Option Int→Hp→Prop)→Prop
def PO (X:Cx) (e:Option Expr) (t:TO):Prop:=
 ∀(pins:List (Addr×Obj)) (s:Shared) (σ:St) (H:Hp) (Q:Option Int→Hp→Prop),Inv X pins σ H s→t σ H Q→
  wpAny (model X.prog X.w) X.A (evalPart e X.env) (fun u s'=>∃o H',Inv X pins σ H' s'∧IsPart u o∧Q o H') X.xe s
def y4C:TO:=fun _ H Q=>Q none H
def tPart (t:TE):TO:=fun σ H Q=>t σ H fun x H1=>∃i,x= .int i∧Q (some i) H1
section
variable {X:Cx}{e:Expr}{te:TE}{lo hi:Option Expr}{tl th:TO}{pos p2:Pos}
theorem z1t:PO X none y4C:=by
 intro pins s σ H Q I h
 rw[evalPart_none]
 exact wpAny_pure ⟨none,H,I,.none,h⟩
theorem z1f (h:PE X e te):PO X (some e) (tPart te):=by
 intro pins s σ H Q I hw
 rw[evalPart_some]
 refine thn (h pins s σ H _ I hw) fun u s1 ⟨x,H1,I1,r1,q1⟩=>?_
 obtain⟨i,rfl,q⟩:=q1
 obtain⟨t,rfl⟩:=r1
 exact⟨some i,H1,I1,.int i t,q⟩
def SlR (X:Cx) (r:V→Option Int→Option Int→Hp→VK→Prop):Prop:=
 ∀(pins:List (Addr×Obj)) (s:Shared) (σ:St) (H:Hp) (x:V) (v vl vu:Value) (lo hi:Option Int) (sl:Addr) (Q:VK),Inv X pins σ H s→RelV x v→s.heap.IsSliceOf sl vl vu .none →IsPart vl lo→IsPart vu hi→r x lo hi H Q→
  ∃T id,typeLookup (.type T) "__getitem__"=pure (some (.builtin id))∧s.TypeIs v T∧wpAny (model X.prog X.w) X.A (getItem v (.ref sl)) (EP X pins σ Q) X.xe s
theorem SlR.or {r r':V→Option Int→Option Int→Hp→VK→Prop} (h:SlR X r) (h':SlR X r'):SlR X (fun x lo hi H Q=>r x lo hi H Q∨r' x lo hi H Q):=by
 intro pins s σ H x v vl vu lo hi sl Q I rx hs pl pu q
 rcases q with q|q
 ·exact h pins s σ H x v vl vu lo hi sl Q I rx hs pl pu q
 ·exact h' pins s σ H x v vl vu lo hi sl Q I rx hs pl pu q
def tSl (r:V→Option Int→Option Int→Hp→VK→Prop) (te:TE) (tl th:TO):TE:=fun σ H Q=>te σ H fun x H1=>tl σ H1 fun l H2=>th σ H2 fun u H3=>r x l u H3 Q
theorem z0Y {r:V→Option Int→Option Int→Hp→VK→Prop} (hr:SlR X r) (he:PE X e te) (hl:PO X lo tl) (hu:PO X hi th):PE X (.Subscript e (.Slice lo hi none p2) pos) (tSl r te tl th):=by
 intro pins s σ H Q I h
 refine Subscript_ (thn (he pins s σ H _ I h) fun v s1 ⟨x,H1,I1,r1,q1⟩=>?_)
 refine wpAny_Slice (thn (hl pins s1 σ H1 _ I1 q1) fun vl s2 ⟨l,H2,I2,pl,q2⟩=>thn (hu pins s2 σ H2 _ I2 q2) fun vu s3 ⟨u,H3,I3,pu,q3⟩=>?_)
 rw[evalPart_none]
 refine wpAny_pure ?_
 have I4:Inv X pins σ H3 {s3 with heap:=s3.heap.push {cls:= .type "slice",data:= .fields #[vl,vu,.none]}}:=I3.kept (t':=s3.toks) fun b ob q=>q0d _ q
 obtain⟨T,id,hT,ht,hg⟩:=hr pins {s3 with heap:=s3.heap.push {cls:= .type "slice",data:= .fields #[vl,vu,.none]}} σ H3 x v vl vu l u s3.heap.objs.size Q I4 r1 (Heap.IsSliceOf.new ..) pl pu q3
 show wpAny (model X.prog X.w) X.A (subscriptTail e (.Slice lo hi none p2) v (.ref s3.heap.objs.size)) (EP X pins σ Q) X.xe {s3 with heap:=s3.heap.push {cls:= .type "slice",data:= .fields #[vl,vu,.none]}}
 exact tail_any (ops:=[.ref s3.heap.objs.size,v]) ht hT hg (by with_unfolding_all rfl)
def z8i (xs:List V) (lo hi:Option Int):List V:=(xs.drop (HT.sIx xs.length 0 lo)).take (HT.sIx xs.length xs.length hi - HT.sIx xs.length 0 lo)
theorem z4H (xs:List V) (lo hi:Option Int):(z8i xs lo hi).length ≤xs.length:=by
 unfold z8i
 rw[q0o,q1K]
 lia
def rSlT (K:PySem.W.Frag):V→Option Int→Option Int→Hp→VK→Prop:=fun x lo hi H Q=>∃a xs,x= .ref a∧SqT K H a xs∧
 ¬(HT.sIx xs.length 0 lo=0∧HT.sIx xs.length xs.length hi=xs.length)∧∀p,H p=none→Q (.ref p) (upd H p (.tup (z8i xs lo hi)))
theorem y3Z:SlR X (rSlT X.K):=by
 intro pins s σ H x v vl vu lo hi sl Q I rx hs pl pu h
 obtain⟨a,xs,rfl,hx,hw,q⟩:=h
 cases rx
 obtain⟨its,r,ht,hz⟩:=I.tuple hx
 have hlen:its.toArray.size=xs.length:=by rw[q0e];exact r.length.symm
 refine⟨"tuple",_,PyProof.Rows.slot_tuple_getitem.lookup,ht.typeIs,?_⟩
 refine HT.getItem_tuple_cut ht hs pl pu (by rw[hlen];exact hw) ?_ (by rw[hlen];exact hz)
 rw[hlen]
 refine⟨.ref s.heap.objs.size,_,I.laid (t':=s.toks) (o:= .tup (z8i xs lo hi)) (fun b ob q=>q0d _ q) (q0j _) ?_,rfl,q _ (I.hok.fresh (q0j _))⟩
 exact⟨q0p (z4H xs lo hi) hz,_,(r.drop (HT.sIx xs.length 0 lo)).take (HT.sIx xs.length xs.length hi - HT.sIx xs.length 0 lo),IsTup.new _ _⟩
def rCatT (K:PySem.W.Frag):R2:=fun x y H Q=>∃a b xs ys,x= .ref a∧y= .ref b∧SqT K H a xs∧SqT K H b ys∧xs≠[]∧xs.length+ys.length≤sizeLine∧
 (ys=[]→Q (.ref a) H)∧(ys≠[]→∀p,H p=none→Q (.ref p) (upd H p (.tup (xs++ys))))
theorem Vals.nil_iff {xs:List V}{us:List Value} (r:Vals xs us):us=[]↔xs=[]:=by
 cases r with
 |nil=>simp
 |cons _ _=>simp
theorem y5b:OpR X (binaryOp .Add) (rCatT X.K):=by
 intro pins s σ H x y v u Q I rx ry h
 obtain⟨a,b,xs,ys,rfl,rfl,ha,hb,hx,hz,q1,q2⟩:=h
 cases rx
 cases ry
 obtain⟨its,r1,p1,_⟩:=I.tuple ha
 obtain⟨its2,r2,p2,_⟩:=I.tuple hb
 refine HT.cat_tup p1 p2 (fun z=>hx (r1.nil_iff.mp z)) (fun z=>⟨.ref a,H,I,rfl,q1 (r2.nil_iff.mp z)⟩) (fun z=>?_) (by rw[←r1.length,←r2.length];exact hz)
 refine⟨.ref s.heap.objs.size,_,I.laid (t':=s.toks) (o:= .tup (xs++ys)) (fun b ob q=>q0d _ q) (q0j _) ?_,rfl,q2 (fun w=>z (r2.nil_iff.mpr w)) _ (I.hok.fresh (q0j _))⟩
 exact⟨by rw[q0n];exact hz,_,r1.append r2,IsTup.new _ _⟩
end
end L2
namespace L2
open PySem PySem.Spec PyProof.Rows
def ixN (n:Nat) (i:Int):Option Nat:=if 0≤i then (if i<n then some i.toNat else none) else if -(n:Int)≤i then some (i+n).toNat else none
def atI {α:Type} (xs:List α) (i:Int):Option α:=(ixN xs.length i).bind fun j=>xs[j]?
theorem y1P {n:Nat}{i:Int}{j:Nat} (h:ixN n i=some j):seqIndex? i n=some j∧j<n∧ -(n:Int)≤i∧i<n:=by
 unfold ixN at h
 by_cases h0:0≤i
 ·rw[if_pos h0] at h
  by_cases h1:i<n
  ·rw[if_pos h1] at h
   have e:i.toNat=j:=Option.some.inj h
   exact⟨by rw[seqIndex_of h0 h1,e],by lia,by lia,h1⟩
  ·rw[if_neg h1] at h;cases h
 ·rw[if_neg h0] at h
  by_cases h1: -(n:Int)≤i
  ·rw[if_pos h1] at h
   have e:(i+n).toNat =j:=Option.some.inj h
   exact⟨by rw[seqIndex_neg (by lia) h1,e],by lia,h1,by lia⟩
  ·rw[if_neg h1] at h;cases h
theorem y2y {α:Type}{xs:List α}{i:Int}{v:α} (h:atI xs i=some v):∃j,seqIndex? i xs.length=some j∧xs[j]? =some v∧j<xs.length∧ -(xs.length:Int)≤i∧i<xs.length:=by
 unfold atI at h
 cases e:ixN xs.length i with
 |none=>rw[e] at h;cases h
 |some j=>
  rw[e] at h
  obtain⟨h1,h2,h3,h4⟩:=y1P e
  exact⟨j,h1,h,h2,h3,h4⟩
theorem z2E {α:Type}{xs:List α}{j:Nat}{v:α} (h:xs[j]? =some v):atI xs (j:Int)=some v:=by
 have hj:j<xs.length:=(q0t.mp h).1
 have e:ixN xs.length (j:Int)=some j:=by
  unfold ixN
  rw[if_pos (by lia),if_pos (by lia)];simp
 unfold atI;rw[e];exact h
theorem z2K {α:Type} (xs:List α) (v:α):atI (xs++[v]) (-1)=some v:=by
 have hl:(xs++[v]).length =xs.length+1:=by simp
 have e:ixN (xs++[v]).length (-1)=some xs.length:=by
  unfold ixN
  rw[hl,if_neg (by decide),if_pos (by lia)]
  congr 1
  lia
 unfold atI
 rw[e]
 show (xs++[v])[xs.length]? =some v
 simp
def y5O (b:Expr):Prop:=∀o i,subscripted b false o i=operate [o,i] (getItem o i)
def IxR (X:Cx) (r:R2):Prop:=
 ∀(value slice:Expr) (pins:List (Addr×Obj)) (s:Shared) (σ:St) (H:Hp) (x y:V) (v u:Value) (Q:VK),Inv X pins σ H s→RelV x v→RelV y u→r x y H Q→
  subscripted slice false v u=operate [v,u] (getItem v u)→wpAny (model X.prog X.w) X.A (subscriptTail value slice v u) (EP X pins σ Q) X.xe s
def MtR (X:Cx) (id:String) (r:V→List V→Hp→VK→Prop):Prop:=
 ∀(pins:List (Addr×Obj)) (s:Shared) (σ:St) (H:Hp) (x:V) (xs:List V) (v:Value) (us:List Value) (Q:VK),Inv X pins σ H s→RelV x v→Vals xs us→r x xs H Q→
  wpAny (model X.prog X.w) X.A (call (.builtin id) (v::us)) (EP X pins σ Q) X.xe s
section
variable {X:Cx}{a b:Expr}{ta tb:TE}{pos:Pos}
theorem IxR.or {r r':R2} (h:IxR X r) (h':IxR X r'):IxR X (fun x y H Q=>r x y H Q∨r' x y H Q):=by
 intro value slice pins s σ H x y v u Q I rx ry q hs
 rcases q with q|q
 ·exact h value slice pins s σ H x y v u Q I rx ry q hs
 ·exact h' value slice pins s σ H x y v u Q I rx ry q hs
theorem z0G {r:R2} (hr:IxR X r) (ha:PE X a ta) (hb:PE X b tb) (hs:y5O b):PE X (.Subscript a b pos) (tOp r ta tb):=by
 intro pins s σ H Q I h
 exact Subscript_ (binT ha hb I h fun v u s2 x y H2 I2 rx ry q=>hr a b pins s2 σ H2 x y v u Q I2 rx ry q (hs _ _))
def rIxL (K:PySem.W.Frag):R2:=fun x y H Q=>∃p xs i v,x= .ref p∧y= .int i∧SqL K H p xs∧atI xs i=some v∧Q v H
def rIxT (K:PySem.W.Frag):R2:=fun x y H Q=>∃p xs i v,x= .ref p∧y= .int i∧SqT K H p xs∧atI xs i=some v∧Q v H
theorem y1O:IxR X (rIxL X.K):=by
 intro value slice pins s σ H x y v u Q I rx ry h hs
 obtain⟨p,xs,i,z,rfl,rfl,hq,he,q⟩:=h
 cases rx
 obtain⟨t,rfl⟩:=ry
 obtain⟨its,r,pl,hz⟩:=I.list hq
 obtain⟨j,h1,h2,h3,h4,h5⟩:=y2y he
 obtain⟨w,ew,rw'⟩:=r.get h2
 have hl:=r.length
 have hn:=z6V
 have fin:EP X pins σ Q w s:=⟨z,H,I,rw',q⟩
 by_cases h0:0≤i
 ·have hj:i.toNat=j:=by
   rw[seqIndex_of h0 h5] at h1
   exact Option.some.inj h1
  exact item_listR pl.isList h0 (by lia) (by rw[hj];simpa using ew) fin hs
 ·have hj:(i+(its.toArray.size:Int)).toNat =j:=by
   rw[seqIndex_neg (by lia) h4] at h1
   rw[q0e,←hl]
   exact Option.some.inj h1
  exact subscriptTail_builtinR (x:=w) pl.isList.typeIs slot_list_getitem.lookup
   (wpAny_getItem_list_neg (Q:=fun r s'=>r=w∧EP X pins σ Q r s') pl.isList (by lia) (by rw[q0e]<;>lia) (by lia) (by rw[hj];simpa using ew) ⟨rfl,fin⟩) hs
theorem y4n:IxR X (rIxT X.K):=by
 intro value slice pins s σ H x y v u Q I rx ry h hs
 obtain⟨p,xs,i,z,rfl,rfl,hq,he,q⟩:=h
 cases rx
 obtain⟨t,rfl⟩:=ry
 obtain⟨its,r,pl,hz⟩:=I.tuple hq
 obtain⟨j,h1,h2,h3,h4,h5⟩:=y2y he
 obtain⟨w,ew,rw'⟩:=r.get h2
 have hl:=r.length
 have hn:=z6V
 have fin:EP X pins σ Q w s:=⟨z,H,I,rw',q⟩
 exact subscriptTail_builtinR (x:=w) pl.typeIs slot_tuple_getitem.lookup
  (getItem_tuple (j:=j) (Q:=fun r s'=>r=w∧EP X pins σ Q r s') pl (by lia) (by lia) (by rw[q0e,←hl];exact h1) (by simpa using ew) ⟨rfl,fin⟩) hs
theorem z9O (its:List Value) (n j:Nat) (u:Value):Obj.mapSeq (·.setIfInBounds j u) {cls:= .type "list",data:= .seq its.toArray n}={cls:= .type "list",data:= .seq (its.set j u).toArray n}:=by
 simp[Obj.mapSeq]
theorem Inv.lst {pins:List (Addr×Obj)}{σ:St}{H:Hp}{s:Shared}{p:Addr}{xs:List V} (I:Inv X pins σ H s) (h:H p=some (.lst xs)):
 ∃(its:List Value) (n:Nat),Vals xs its∧s.heap.get? p=some {cls:= .type "list",data:= .seq its.toArray n}∧xs.length≤sizeLine:=by
 obtain⟨z,its,n,r,e⟩:=I.hok p _ h
 exact⟨its,n,r,e,z⟩
theorem Inv.lstUpd {pins:List (Addr×Obj)}{σ:St}{H:Hp}{s:Shared}{p:Addr}{xs ys:List V}{its its':List Value}{n n':Nat}{f:Obj→Obj} (I:Inv X pins σ H s) (h:H p=some (.lst xs))
 (ho:s.heap.get? p=some {cls:= .type "list",data:= .seq its.toArray n}) (hf:f {cls:= .type "list",data:= .seq its.toArray n}={cls:= .type "list",data:= .seq its'.toArray n'}) (r:Vals ys its') (hz:ys.length≤sizeLine) (t:Nat):
 Inv X pins σ (upd H p (.lst ys)) {s with heap:=s.heap.update p f,toks:=t}:=by
 have e:(s.heap.update p f).get? p=some {cls:= .type "list",data:= .seq its'.toArray n'}:=by
  rw[Heap.get?_update_self f ho (by rw[hf]<;>rfl),hf]
 refine I.write (x:=p) (e:=p) (by rw[h];trivial) (.inl rfl) (fun b u hb q=>(q1m _ _ (Ne.symm hb)).trans q) ⟨_,e⟩ ?_
 exact⟨hz,its',n',r,e⟩
def rSetL:V→V→V→Hp→(Hp→Prop)→Prop:=fun o i v H Q=>∃p xs k j,o= .ref p∧i= .int k∧H p=some (.lst xs)∧ixN xs.length k=some j∧Q (upd H p (.lst (xs.set j v)))
theorem z5G:PSet X rSetL:=by
 intro pins s σ H o i v ov iv u Q I ro ri rv h
 obtain⟨p,xs,k,j,rfl,rfl,hp,hj,q⟩:=h
 cases ro
 obtain⟨t,rfl⟩:=ri
 obtain⟨its,n,r,ho,hz⟩:=I.lst hp
 obtain⟨h1,h2,h3,h4⟩:=y1P hj
 have hl:=r.length
 have hn:=z6V
 have I':Inv X pins σ (upd H p (.lst (xs.set j v))) {s with heap:=s.heap.update p (Obj.mapSeq (·.setIfInBounds j u))}:=
  I.lstUpd hp ho (z9O its n j u) (r.set rv j) (by rw[List.length_set];exact hz) s.toks
 by_cases h0:0≤k
 ·have hk:k.toNat=j:=by
   rw[seqIndex_of h0 h4] at h1
   exact Option.some.inj h1
  exact PySem.W.ki_setAt ho h0 (by lia) (by rw[q0e,←hl];exact h4) (by rw[hk];exact⟨_,I',q⟩)
 ·have hk:(k+(its.toArray.size:Int)).toNat =j:=by
   rw[seqIndex_neg (by lia) h3] at h1
   rw[q0e,←hl]
   exact Option.some.inj h1
  exact PySem.W.ki_setBack ho (by lia) (by rw[q0e,←hl];exact h3) (by lia) (by rw[hk];exact⟨_,I',q⟩)
theorem z6F (lo hi:Option Int) (n:Nat):(sliceBounds lo hi none n).1 =((HT.sIx n 0 lo:Nat):Int)∧(sliceBounds lo hi none n).2.1 =((HT.sIx n n hi:Nat):Int)∧(sliceBounds lo hi none n).2.2 =1:=by
 refine⟨?_,?_,rfl⟩
 ·cases lo with
  |none=>simp[sliceBounds,HT.sIx]
  |some i=>
   simp only[sliceBounds,HT.sIx,Option.getD_none,show (1:Int)>0 by decide,if_true]
   by_cases h:i<0
   ·simp only[h,if_true]<;>lia
   ·simp only[h,if_false]<;>lia
 ·cases hi with
  |none=>simp[sliceBounds,HT.sIx]
  |some i=>
   simp only[sliceBounds,HT.sIx,Option.getD_none,show (1:Int)>0 by decide,if_true]
   by_cases h:i<0
   ·simp only[h,if_true]<;>lia
   ·simp only[h,if_false]<;>lia
theorem z5D (its:List Value) (lo hi:Option Int):slicePick its.toArray lo hi none=((its.drop (HT.sIx its.length 0 lo)).take (HT.sIx its.length its.length hi - HT.sIx its.length 0 lo)).toArray :=by
 obtain⟨h1,h2,h3⟩:=z6F lo hi its.toArray.size
 unfold slicePick
 rw[h1,h2,h3]
 simp only[sliceRange_one,pick_run,q0e]<;>rfl
def rSlL (K:PySem.W.Frag):V→Option Int→Option Int→Hp→VK→Prop:=fun x lo hi H Q=>∃a xs,x= .ref a∧SqL K H a xs∧∀p,H p=none→Q (.ref p) (upd H p (.lst (z8i xs lo hi)))
theorem y0M:SlR X (rSlL X.K):=by
 intro pins s σ H x v vl vu lo hi sl Q I rx hs pl pu h
 obtain⟨a,xs,rfl,hx,q⟩:=h
 cases rx
 obtain⟨its,r,ht,hz⟩:=I.list hx
 have hlen:=r.length
 refine⟨"list",_,slot_list_getitem.lookup,ht.isList.typeIs,?_⟩
 refine wpAny_getItem_list_slice ht.isList hs pl pu .none (by simp) ?_ (by rw[q0e]<;>lia)
 rw[z5D,←hlen]
 refine⟨.ref s.heap.objs.size,_,I.laid (t':=s.toks) (o:= .lst (z8i xs lo hi)) (fun b ob q=>q0d _ q) (q0j _) ?_,rfl,q _ (I.hok.fresh (q0j _))⟩
 exact⟨q0p (z4H xs lo hi) hz,_,0,(r.drop (HT.sIx xs.length 0 lo)).take (HT.sIx xs.length xs.length hi - HT.sIx xs.length 0 lo),q0s _ rfl⟩
def z6k:V→Bool
 | .non =>true
 | .bl _=>true
 | .int _=>true
 | .str _=>true
 |_=>false
def eqV:V→V→Bool
 | .non,.non =>true
 | .bl a,.bl b=>a==b
 | .bl a,.int b=>(if a then 1 else 0)==b
 | .int a,.bl b=>a==(if b then 1 else 0)
 | .int a,.int b=>a==b
 | .str a,.str b=>a==b
 |_,_=>false
theorem y6R {A:Around}{s:Shared}{y x:V}{u v:Value} (ry:RelV y u) (rx:RelV x v) (fy:z6k y=true) (fx:z6k x=true):SeqAt.EqAt A s u v (eqV y x):=by
 cases y with
 |non=>
  cases ry
  cases x with
  |non=>cases rx;exact SeqAt.EqAt.same _
  |bl b=>cases rx;exact SeqAt.EqAt.none_bool b
  |int b=>obtain⟨t,rfl⟩:=rx;exact SeqAt.EqAt.none_int b t
  |str b=>obtain⟨t,rfl⟩:=rx;exact SeqAt.EqAt.none_str b t
  |_=>exact absurd (show false=true from fx) Bool.false_ne_true
 |bl a=>
  cases ry
  cases x with
  |non=>cases rx;exact SeqAt.EqAt.bool_none a
  |bl b=>cases rx;exact SeqAt.EqAt.bool_bool a b
  |int b=>obtain⟨t,rfl⟩:=rx;exact SeqAt.EqAt.bool_int a b t
  |str b=>obtain⟨t,rfl⟩:=rx;exact SeqAt.EqAt.bool_str a b t
  |_=>exact absurd (show false=true from fx) Bool.false_ne_true
 |int a=>
  obtain⟨t',rfl⟩:=ry
  cases x with
  |non=>cases rx;exact SeqAt.EqAt.int_none a t'
  |bl b=>cases rx;exact SeqAt.EqAt.int_bool a t' b
  |int b=>obtain⟨t,rfl⟩:=rx;exact SeqAt.EqAt.int_int a t' b t
  |str b=>obtain⟨t,rfl⟩:=rx;exact SeqAt.EqAt.int_str a t' b t
  |_=>exact absurd (show false=true from fx) Bool.false_ne_true
 |str a=>
  obtain⟨t',rfl⟩:=ry
  cases x with
  |non=>cases rx;exact SeqAt.EqAt.str_none a t'
  |bl b=>cases rx;exact SeqAt.EqAt.str_bool a t' b
  |int b=>obtain⟨t,rfl⟩:=rx;exact SeqAt.EqAt.str_int a t' b t
  |str b=>obtain⟨t,rfl⟩:=rx;exact SeqAt.EqAt.str_str a t' b t
  |_=>exact absurd (show false=true from fx) Bool.false_ne_true
 |_=>exact absurd (show false=true from fy) Bool.false_ne_true
def eqU (x:V) (u:Value):Bool:=match u with
 | .none =>eqV .non x
 | .bool b=>eqV (.bl b) x
 | .int i _=>eqV (.int i) x
 | .str z _=>eqV (.str z) x
 |_=>false
theorem y4o {x y:V}{u:Value} (r:RelV y u) (f:z6k y=true):eqU x u=eqV y x:=by
 cases y with
 |non=>cases r;rfl
 |bl b=>cases r;rfl
 |int i=>obtain⟨t,rfl⟩:=r;rfl
 |str z=>obtain⟨t,rfl⟩:=r;rfl
 |_=>exact absurd (show false=true from f) Bool.false_ne_true
theorem z4K {x:V}:∀{xs:List V}{us:List Value},Vals xs us→xs.all z6k=true→us.any (eqU x)=xs.any fun y=>eqV y x
 |_,_,.nil,_=>rfl
 |y::xs,u::us,.cons r t,f=>by
  rw[List.all_cons,q1l] at f
  rw[List.any_cons,List.any_cons,y4o r f.1,z4K t f.2]
theorem z3h {A:Around}{s:Shared}{x:V}{v:Value} (rx:RelV x v) (fx:z6k x=true):∀{xs:List V}{us:List Value},Vals xs us→xs.all z6k=true→∀u∈us,SeqAt.EqAt A s u v (eqU x u)
 |_,_,.nil,_=>fun u hu=>by cases hu
 |y::xs,u::us,.cons r t,f=>fun u' hu=>by
  rw[List.all_cons,q1l] at f
  rcases q0r.mp hu with rfl|hu
  ·rw[y4o r f.1];exact y6R r rx f.1 fx
  ·exact z3h rx fx t f.2 u' hu
def inV (x:V) (xs:List V):Bool:=xs.any fun y=>eqV y x
def rIn (K:PySem.W.Frag) (neg:Bool):R2:=fun x y H Q=>∃p xs,y= .ref p∧(SqL K H p xs∨SqT K H p xs)∧z6k x=true∧xs.all z6k=true∧Q (.bl (if neg then !inV x xs else inV x xs)) H
theorem y1n:OpR X (compareOp .In) (rIn X.K false):=by
 intro pins s σ H x y v u Q I rx ry h
 obtain⟨p,xs,rfl,hq,fx,fs,q⟩:=h
 cases ry
 rcases hq with hq|hq
 ·obtain⟨its,r,pl,hz⟩:=I.list hq
  refine SeqAt.in_listAt (eqU x) pl.isList (fun w hw=>z3h rx fx r fs w (by simpa using hw)) ⟨.bl _,H,I,rfl,?_⟩
  rw[show its.toArray.any (eqU x)=its.any (eqU x) by simp,z4K r fs]
  exact q
 ·obtain⟨its,r,pl,hz⟩:=I.tuple hq
  refine SeqAt.in_tupleAt (eqU x) pl (fun w hw=>z3h rx fx r fs w (by simpa using hw)) ⟨.bl _,H,I,rfl,?_⟩
  rw[show its.toArray.any (eqU x)=its.any (eqU x) by simp,z4K r fs]
  exact q
theorem z6M:OpR X (compareOp .NotIn) (rIn X.K true):=by
 intro pins s σ H x y v u Q I rx ry h
 obtain⟨p,xs,rfl,hq,fx,fs,q⟩:=h
 cases ry
 rcases hq with hq|hq
 ·obtain⟨its,r,pl,hz⟩:=I.list hq
  refine SeqAt.notIn_listAt (eqU x) pl.isList (fun w hw=>z3h rx fx r fs w (by simpa using hw)) ⟨.bl _,H,I,rfl,?_⟩
  rw[show its.toArray.any (eqU x)=its.any (eqU x) by simp,z4K r fs]
  exact q
 ·obtain⟨its,r,pl,hz⟩:=I.tuple hq
  refine SeqAt.notIn_tupleAt (eqU x) pl (fun w hw=>z3h rx fx r fs w (by simpa using hw)) ⟨.bl _,H,I,rfl,?_⟩
  rw[show its.toArray.any (eqU x)=its.any (eqU x) by simp,z4K r fs]
  exact q
theorem z7l:z2t X (.builtin "len") (fun xs H Q=>∃p ys,xs=[.ref p]∧(SqL X.K H p ys∨SqT X.K H p ys)∧Q (.int ys.length) H):=by
 intro pins s σ H xs us Q I r h
 obtain⟨p,ys,rfl,hq,q⟩:=h
 obtain⟨u,rfl,rx⟩:=z9n r
 cases rx
 have hn:=z6V
 rcases hq with hq|hq
 ·obtain⟨its,r',pl,hz⟩:=I.list hq
  have hlen:=r'.length
  exact Calls.call_len_list pl.isList (by simp only[q0e]<;>lia) ⟨.int ys.length,H,I.tok _,⟨s.toks+1,by rw[q0e,hlen]⟩,q⟩
 ·obtain⟨its,r',pl,hz⟩:=I.tuple hq
  have hlen:=r'.length
  exact len_tuple pl (by simp only[q0e]<;>lia) ⟨.int ys.length,H,I.tok _,⟨s.toks+1,by rw[q0e,hlen]⟩,q⟩
theorem z7k:z2t X (.type "list") (fun xs H Q=>∃p ys,xs=[.ref p]∧(SqL X.K H p ys∨SqT X.K H p ys)∧∀l,H l=none→Q (.ref l) (upd H l (.lst ys))):=by
 intro pins s σ H xs us Q I r h
 obtain⟨p,ys,rfl,hq,q⟩:=h
 obtain⟨u,rfl,rx⟩:=z9n r
 cases rx
 have fin:∀(its:List Value),Vals ys its→ys.length≤sizeLine→∀(h':Heap) (c':Nat),(∀b o',s.heap.get? b=some o'→h'.get? b=some o')→
  h'.get? s.heap.objs.size=some {cls:= .type "list",dict:=none,data:= .seq its.toArray c',slots:= #[]}→EP X pins σ Q (.ref s.heap.objs.size) {s with heap:=h'}:=fun its r' hz h' c' kp e=>
  ⟨.ref s.heap.objs.size,_,I.laid (t':=s.toks) kp (q0j _) (show ObjOk X.prog X.w _ h' _ (.lst ys) from⟨hz,its,c',r',e⟩),rfl,q _ (I.hok.fresh (q0j _))⟩
 rcases hq with hq|hq
 ·obtain⟨its,r',pl,hz⟩:=I.list hq
  have hlen:=r'.length
  obtain⟨o,ho,hc,n,hd⟩:=pl.isList
  exact call_list_seq p (.inl rfl) ho hc hd (fun h' c' kp e=>fin its r' hz h' c' kp e) (by simp only[q0e]<;>lia)
 ·obtain⟨its,r',pl,hz⟩:=I.tuple hq
  have hlen:=r'.length
  obtain⟨o,ho,hc,n,hd⟩:=pl
  exact call_list_seq p (.inr rfl) ho hc hd (fun h' c' kp e=>fin its r' hz h' c' kp e) (by simp only[q0e]<;>lia)
theorem z6o:z2t X (.type "tuple") (fun xs H Q=>∃p ys,xs=[.ref p]∧((SqL X.K H p ys∧∀l,H l=none→Q (.ref l) (upd H l (.tup ys)))∨(SqT X.K H p ys∧Q (.ref p) H))):=by
 intro pins s σ H xs us Q I r h
 obtain⟨p,ys,rfl,h⟩:=h
 obtain⟨u,rfl,rx⟩:=z9n r
 cases rx
 rcases h with⟨hq,q⟩|⟨hq,q⟩
 ·obtain⟨its,r',pl,hz⟩:=I.list hq
  have hlen:=r'.length
  refine call_tuple_list pl.isList (fun h' kp=>?_) (by simp only[q0e]<;>lia)
  have I1:Inv X pins σ H {s with heap:=h'}:=I.kept (t':=s.toks) kp
  have I2:Inv X pins σ (upd H h'.objs.size (.tup ys)) {s with heap:=h'.push {cls:= .type "tuple",data:= .seq its.toArray}}:=
   I1.laid (t':=s.toks) (fun b o e=>q0d _ e) (q0j _) (show ObjOk X.prog X.w _ _ _ (.tup ys) from⟨hz,its,r',IsTup.new _ _⟩)
  exact⟨.ref h'.objs.size,_,I2,rfl,q _ (I1.hok.fresh (q0j _))⟩
 ·obtain⟨its,r',pl,hz⟩:=I.tuple hq
  exact call_tuple_same pl ⟨.ref p,H,I,rfl,q⟩
def tyV (K:PySem.W.Frag) (T:String) (x:V) (H:Hp):Prop:=match x with
 | .str _=>T="str"
 | .int _=>T="int"
 | .ref p=>(T="list"∧∃xs,SqL K H p xs)∨(T="tuple"∧∃o,K.lookup p=some o∧o.cls= .type "tuple"∧o.dict=none)∨
  (T="dict"∧((∃kvs,H p=some (.dK kvs))∨∃kvs,H p=some (.dT kvs)))∨(T="set"∧∃S n,H p=some (.set S n))
 |_=>False
theorem y3V {pins:List (Addr×Obj)}{σ:St}{H:Hp}{s:Shared}{T:String}{x:V}{v:Value} (I:Inv X pins σ H s) (r:RelV x v) (ty:tyV X.K T x H):
 s.TypeIs v T∧∀a,v= .ref a→∃ob,s.heap.get? a=some ob∧ob.dict=none:=by
 cases x with
 |str z=>
  obtain⟨t,rfl⟩:=r
  cases (show T="str" from ty)
  exact⟨typeIs_str s z t,fun _ e=>nomatch e⟩
 |int i=>
  obtain⟨t,rfl⟩:=r
  cases (show T="int" from ty)
  exact⟨typeIs_int s i t,fun _ e=>nomatch e⟩
 |ref p=>
  cases r
  rcases ty with⟨rfl,xs,hq⟩|⟨rfl,o,hk,hc,hd⟩|⟨rfl,hk⟩|⟨rfl,S,n,hk⟩
  ·obtain⟨its,_,pl,_⟩:=I.list hq
   refine⟨pl.isList.typeIs,fun a e=>?_⟩
   cases e
   obtain⟨o,n,e,c,hd,_⟩:=pl
   exact⟨o,e,hd⟩
  ·refine⟨⟨o,I.kIn p o hk,hc⟩,fun a e=>?_⟩
   cases e
   exact⟨o,I.kIn _ o hk,hd⟩
  ·have z:∃o,s.heap.get? p=some o∧o.ExactDict:=by
      rcases hk with⟨kvs,hk⟩|⟨kvs,hk⟩
      ·obtain⟨_,_,_,_,o,_,_,e,ex,_⟩:=I.hok p _ hk
       exact⟨o,e,ex⟩
      ·obtain⟨_,_,_,_,o,_,_,e,ex,_⟩:=I.hok p _ hk
       exact⟨o,e,ex⟩
   obtain⟨o,e,ex⟩:=z
   refine⟨⟨o,e,ex.1⟩,fun a e2=>?_⟩
   cases e2
   exact⟨o,e,ex.2.1⟩
  ·obtain⟨o,_,_,_,e,ex,_⟩:=I.hok p _ hk
   refine⟨⟨o,e,ex.1⟩,fun a e2=>?_⟩
   cases e2
   exact⟨o,e,ex.2.1⟩
 |_=>exact False.elim ty
def tBM0 (K:PySem.W.Frag) (T:String) (r:V→List V→Hp→VK→Prop) (to:TE):TE:=fun σ H Q=>to σ H fun x H1=>tyV K T x H1∧r x [] H1 Q
def tBM (K:PySem.W.Frag) (T:String) (r:V→List V→Hp→VK→Prop) (to:TE) (t:TA):TE:=fun σ H Q=>to σ H fun x H1=>tyV K T x H1∧t σ H1 fun xs H2=>r x xs H2 Q
variable {o e:Expr}{es:List Expr}{to:TE}{t:TA}{name:Str}{apos cpos:Pos}{T id:String}{r:V→List V→Hp→VK→Prop}
theorem y6r (pa:PlainAttrs T) (slot:Slot T name id) (hty:typeOf (.builtin id)=pure (.type "method_descriptor")) (hm:MtR X id r) (ho:PE X o to)
 (hbase:attributeBase o name X.env (eval o X.env)=eval o X.env:=by rfl) (hline:(apos.endLine==cpos.line)=true:=by rfl):PE X (.Call (.Attribute o name apos) [] [] cpos) (tBM0 X.K T r to):=by
 intro pins s σ H Q I h
 refine wpAny_Call_method0_late hbase hline (thn (ho pins s σ H _ I h) fun v s1 ⟨x,H1,I1,r1,ty,q1⟩=>?_)
 obtain⟨h1,h2⟩:=y3V I1 r1 ty
 exact⟨T,id,pa,slot,hty,h1,h2,Calls.callWith_builtin rfl (PySem.evalArgs_none (hm pins s1 σ H1 x [] v [] Q I1 r1 .nil q1))⟩
theorem z4q (pa:PlainAttrs T) (slot:Slot T name id) (hty:typeOf (.builtin id)=pure (.type "method_descriptor")) (hm:MtR X id r) (ho:PE X o to) (ha:PA X (e::es) t)
 (hbase:attributeBase o name X.env (eval o X.env)=eval o X.env:=by rfl)
 (hfew:((backTo cpos (starEach (e::es) X.env)).all (fun x=> !x.1)&&(backToKw cpos (keywordEach [] X.env)).all (fun x=>x.1.isSome)
  &&decide ((e::es).length +([]:List Keyword).length +(if ([]:List Keyword).isEmpty then 0 else 1)<30))=true:=by rfl)
 (hline:(apos.endLine==cpos.line)=true:=by rfl) (hs:starEach (e::es) X.env=(false,eval e X.env)::starEach es X.env:=by rfl) (hplain:(backTo cpos (starEach es X.env)).any (·.1)=false:=by rfl):
 PE X (.Call (.Attribute o name apos) (e::es) [] cpos) (tBM X.K T r to t):=by
 intro pins s σ H Q I h
 refine wpAny_Call_method_late hbase hfew hline rfl (thn (ho pins s σ H _ I h) fun v s1 ⟨x,H1,I1,r1,ty,q1⟩=>?_)
 obtain⟨h1,h2⟩:=y3V I1 r1 ty
 refine⟨T,id,pa,slot,hty,h1,h2,?_⟩
 have hA:=ha cpos pins s1 σ H1 _ I1 q1
 rw[hs] at hA ⊢
 refine Calls.callWith_builtin (by show (false || (backTo cpos (starEach es X.env)).any (·.1))=false;rw[hplain]<;>rfl) (Calls.evalArgs_plain ?_)
 exact thn hA fun us s2 ⟨vs,H2,I2,r2,q2⟩=>hm pins s2 σ H2 x vs v us Q I2 r1 r2 q2
end
end L2
namespace L2
open PySem PySem.Spec PyProof.Rows
def MtM (X:Cx) (id:String) (r:V→List V→Hp→VK→Prop):Prop:=
 ∀(pins:List (Addr×Obj)) (s:Shared) (σ:St) (H:Hp) (x:V) (xs:List V) (v:Value) (us:List Value) (Q:VK),Inv X pins σ H s→RelV x v→Vals xs us→r x xs H Q→
  wpAny (model X.prog X.w) X.A (call (.builtin id) (v::us)) (EP X pins σ Q) X.xe s
theorem Vals.one:∀{x:V}{us:List Value},Vals [x] us→∃u,us=[u]∧RelV x u
 |_,_,.cons r .nil =>⟨_,rfl,r⟩
theorem Vals.zero:∀{us:List Value},Vals [] us→us=[]
 |_,.nil =>rfl
theorem Vals.dropLast {xs:List V}{us:List Value} (h:Vals xs us):Vals xs.dropLast us.dropLast:=by
 induction h with
 |nil=>exact .nil
 |cons r t ih=>
  cases t with
  |nil=>exact .nil
  |cons q t'=>exact .cons r ih
theorem Vals.eraseIdx:∀{xs:List V}{us:List Value} (i:Nat),Vals xs us→Vals (xs.eraseIdx i) (us.eraseIdx i)
 |_,_,_,.nil => .nil
 |_,_,0,.cons _ t=>t
 |_,_,i+1,.cons r t=> .cons r (Vals.eraseIdx i t)
theorem Vals.rep {xs:List V}{us:List Value} (h:Vals xs us):∀k:Nat,Vals (List.replicate k xs).flatten (List.replicate k us).flatten
 |0=> .nil
 |k+1=>by
  rw[q0Z,q0Z,q1H,q1H]
  exact Vals.append h (Vals.rep h k)
theorem y0a {α:Type} (l:List α):l.eraseIdx (l.length - 1)=l.dropLast:=by
 induction l with
 |nil=>rfl
 |cons a r ih=>
  cases r with
  |nil=>rfl
  |cons b r=>
   have e:(a::b::r).length - 1=((b::r).length - 1)+1:=by
        have h1:(a::b::r).length =r.length+2:=rfl
        have h2:(b::r).length =r.length+1:=rfl
        lia
   rw[e,List.eraseIdx_cons_succ,ih]
   all_goals rfl
theorem z6X {α:Type}:∀(l:List α) (i:Nat),(l.eraseIdx i).length ≤l.length
 |[],_=>Nat.le_refl _
 |_::_,0=>Nat.le_succ _
 |_::r,i+1=>Nat.succ_le_succ (z6X r i)
theorem z7f (its:List Value):∀(k:Nat) (acc:List Value),
 List.foldl (fun x1 x2=>x1++x2) acc.toArray (List.replicate k its.toArray)=(acc++(List.replicate k its).flatten).toArray
 |0,acc=>by simp
 |k+1,acc=>by
  have e:acc.toArray++its.toArray=(acc++its).toArray :=by simp
  have e2:(acc++its)++(List.replicate k its).flatten =acc++(List.replicate (k+1) its).flatten :=by
   rw[q0Z,q1H,List.append_assoc]
  rw[←e2,←z7f its k (acc++its),←e,q0Z,q1G]
section
variable {X:Cx}{pins:List (Addr×Obj)}{σ:St}{H:Hp}{s:Shared}{l b:Addr}{xs ys zs:List V}
theorem Inv.lset {its its':List Value}{n:Nat}{f:Array Value→Array Value}{t':Nat} (I:Inv X pins σ H s) (hH:H l=some (.lst xs))
 (e:s.heap.get? l=some {cls:= .type "list",data:= .seq its.toArray n}) (hf:f its.toArray=its'.toArray) (hv:Vals ys its') (hz:ys.length≤sizeLine):
 Inv X pins σ (upd H l (.lst ys)) {s with heap:=s.heap.update l (Obj.mapSeq f),toks:=t'}:=by
 have q:=PySem.IsL.update e f
 rw[hf] at q
 refine I.write (x:=l) (e:=l) (by rw[hH];exact trivial) (.inl rfl) (fun b' u hb hu=>(q1m s.heap (Obj.mapSeq f) (Ne.symm hb)).trans hu) ⟨_,q⟩ ?_
 exact⟨hz,its',_,hv,q⟩
theorem Inv.lnew {its:List Value}{t':Nat} (I:Inv X pins σ H s) (hv:Vals ys its) (hz:ys.length≤sizeLine):
 Inv X pins σ (upd H s.heap.objs.size (.lst ys)) {s with heap:=s.heap.push {cls:= .type "list",data:= .seq its.toArray},toks:=t'}:=
 I.laid (fun _ _ q=>q0d _ q) (q0j _) ⟨hz,its,0,hv,q0s _ rfl⟩
theorem Inv.fresh (I:Inv X pins σ H s):H s.heap.objs.size=none:=I.hok.fresh (q0j _)
theorem Inv.lstM (I:Inv X pins σ H s) (hH:H l=some (.lst xs)):xs.length≤sizeLine∧∃(its:List Value) (n:Nat),Vals xs its∧xs.length=its.length∧s.heap.get? l=some {cls:= .type "list",data:= .seq its.toArray n}:=by
 obtain⟨z,its,n,r,e⟩:=I.hok l _ hH
 exact⟨z,its,n,r,r.length,e⟩
theorem y3s {n:Nat} (h:n≤sizeLine):Builtin.List.listTooLong n=false:=by
 unfold Builtin.List.listTooLong
 exact decide_eq_false (by lia)
end
section
variable {X:Cx}
def y4O:V→List V→Hp→VK→Prop:=fun x vs H Q=>∃l xs y,x= .ref l∧vs=[y]∧H l=some (.lst xs)∧xs.length<sizeLine∧Q .non (upd H l (.lst (xs++[y])))
theorem z1j:MtM X "list.append" y4O:=by
 intro pins s σ H x vs v us Q I rx rv h
 obtain⟨l,xs,y,rfl,rfl,hH,hz,q⟩:=h
 cases rx
 obtain⟨u,rfl,ru⟩:=rv.one
 obtain⟨z,its,n,r,hl,e⟩:=I.lstM hH
 refine call_meets F.slot_list_append ⟨_,e,rfl⟩ F.entry_list_append (F.args_list_append_2 _ _) (PySem.list_append l its.toArray n u (by rw[q0e];lia)) ⟨e,?_⟩
 refine⟨.non,_,I.lset (its':=its++[u]) hH e (by simp) (r.append (.cons ru .nil)) ?_,rfl,q⟩
 rw[q0n,q0Y]
 lia
def rPop:V→List V→Hp→VK→Prop:=fun x vs H Q=>∃l xs y,x= .ref l∧vs=[]∧H l=some (.lst xs)∧xs[xs.length - 1]? =some y∧Q y (upd H l (.lst xs.dropLast))
theorem y6D:MtM X "list.pop" rPop:=by
 intro pins s σ H x vs v us Q I rx rv h
 obtain⟨l,xs,y,rfl,rfl,hH,hy,q⟩:=h
 cases rx
 have hus:=rv.zero
 subst hus
 obtain⟨z,its,n,r,hl,e⟩:=I.lstM hH
 obtain⟨u,hu,ru⟩:=r.get hy
 have hy':its.toArray[its.toArray.size - 1]? =some u:=by
  show its.toArray[its.length - 1]? =some u
  rw[←Array.getElem?_toList,←hl]
  exact hu
 refine call_meets F.slot_list_pop ⟨_,e,rfl⟩ F.entry_list_pop (F.args_list_pop_1 _) (MeetsSeq.list_pop_last l its.toArray n u hy' (by rw[q0e];lia)) ⟨e,?_⟩
 refine⟨y,_,I.lset (its':=its.dropLast) hH e ?_ r.dropLast ?_,ru,q⟩
 ·show its.toArray.eraseIdxIfInBounds (its.toArray.size - 1)=its.dropLast.toArray
  rw[q0e,List.eraseIdxIfInBounds_toArray,y0a]
 ·rw[q1a]
  lia
def y6h:V→List V→Hp→VK→Prop:=fun x vs H Q=>∃l xs i k y,x= .ref l∧vs=[.int i]∧H l=some (.lst xs)∧ -(2^63)≤i∧i<2^63∧seqIndex? i xs.length=some k∧xs[k]? =some y∧Q y (upd H l (.lst (xs.eraseIdx k)))
theorem z8T:MtM X "list.pop" y6h:=by
 intro pins s σ H x vs v us Q I rx rv h
 obtain⟨l,xs,i,k,y,rfl,rfl,hH,h1,h2,hk,hy,q⟩:=h
 cases rx
 obtain⟨u,rfl,ru⟩:=rv.one
 obtain⟨t,rfl⟩:=ru
 obtain⟨z,its,n,r,hl,e⟩:=I.lstM hH
 obtain⟨w,hw,rw'⟩:=r.get hy
 refine call_meets F.slot_list_pop ⟨_,e,rfl⟩ F.entry_list_pop (F.args_list_pop_2 _ _)
  (MeetsSeq.list_pop_at l its.toArray n i t k w (fitsIndex_both h1 h2) (by rw[q0e,←hl];exact hk) (by rw[←Array.getElem?_toList];exact hw) (by rw[q0e];lia)) ⟨e,?_⟩
 refine⟨y,_,I.lset (its':=its.eraseIdx k) hH e ?_ (r.eraseIdx k) ?_,rw',q⟩
 ·show its.toArray.eraseIdxIfInBounds k=(its.eraseIdx k).toArray
  rw[List.eraseIdxIfInBounds_toArray]
 ·have:=z6X xs k
  lia
def rCat:R2:=fun x y H Q=>∃l b xs zs,x= .ref l∧y= .ref b∧H l=some (.lst xs)∧H b=some (.lst zs)∧xs.length+zs.length≤sizeLine∧∀p,H p=none→Q (.ref p) (upd H p (.lst (xs++zs)))
theorem z4t:OpR X (binaryOp .Add) rCat:=by
 intro pins s σ H x y v u Q I rx ry h
 obtain⟨l,b,xs,zs,rfl,rfl,hH,hB,hz,q⟩:=h
 cases rx
 cases ry
 obtain⟨z,its,n,r,hl,e⟩:=I.lstM hH
 obtain⟨z2,its2,n2,r2,hl2,e2⟩:=I.lstM hB
 refine PySem.P.add_list e e2 ?_ (by rw[q0e,q0e];lia)
 have ea:its.toArray++its2.toArray=(its++its2).toArray :=by simp
 rw[ea]
 exact⟨.ref _,_,I.lnew (t':=s.toks) (r.append r2) (by rw[q0n];lia),rfl,q _ I.fresh⟩
def rRep:R2:=fun x y H Q=>∃l k xs,x= .ref l∧y= .int k∧H l=some (.lst xs)∧ -(2^63)≤k∧k<2^63∧xs.length*k.toNat≤sizeLine∧
 ∀p,H p=none→Q (.ref p) (upd H p (.lst (List.replicate k.toNat xs).flatten))
theorem y5n {α:Type} (xs:List α) (k:Nat):(List.replicate k xs).flatten.length =k*xs.length:=by
 induction k with
 |zero=>simp
 |succ k ih=>rw[List.replicate_succ,List.flatten_cons,List.length_append,ih,Nat.succ_mul,Nat.add_comm]
theorem z6L:OpR X (binaryOp .Mult) rRep:=by
 intro pins s σ H x y v u Q I rx ry h
 obtain⟨l,k,xs,rfl,rfl,hH,h1,h2,hz,q⟩:=h
 cases rx
 obtain⟨t,rfl⟩:=ry
 obtain⟨z,its,n,r,hl,e⟩:=I.lstM hH
 have hlen:its.toArray.size*k.toNat≤sizeLine:=by rw[q0e,←hl];exact hz
 have hcap:¬its.toArray.size*k.toNat>(2^63 - 1)/8:=by
  have:(sizeLine:Nat)≤(2^63 - 1)/8:=by decide
  lia
 have hfit:¬(!Builtin.List.listFitsIndex k)=true:=by
  rw[fitsIndex_both h1 h2]
  exact q0z
 have hlong:¬Builtin.List.listTooLong (its.toArray.size*k.toNat)=true:=by
  rw[y3s hlen]
  exact q0z
 have hnew:List.foldl (fun x1 x2=>x1++x2) #[] (List.replicate (if its.toArray.isEmpty=true then 0 else k.toNat) its.toArray)=(List.replicate k.toNat its).flatten.toArray :=by
  have f0:∀m:Nat,List.foldl (fun x1 x2=>x1++x2) #[] (List.replicate m its.toArray)=(List.replicate m its).flatten.toArray :=fun m=>by
   have:=z7f its m []
   rw[List.nil_append] at this
   exact this
  rw[f0]
  cases its with
  |nil=>simp
  |cons a r'=>rw[if_neg (by simp)]
 refine wpAny_binaryOp_repeat_ref (T:="list") (U:="int") (by decide) ⟨_,e,rfl⟩ (fun s'=>typeIs_int s' k t) noFill_list_mul F.fills_int_mul F.slot_int_rmul repeat_list F.slot_int_index.lookup
  (call_meets F.slot_int_rmul (typeIs_int s k t) F.entry_int_rmul (F.args_int_rmul_2 _ _) (int___rmul___int_list k t l its.toArray n)
   ⟨e,rfl,⟨_,e,rfl⟩,call_meets F.slot_list_mul ⟨_,e,rfl⟩ F.entry_list_mul (F.args_list_mul_2 _ _) (AutoListH.list___mul___list_int_3 l its.toArray n k t hfit hcap hlong) ⟨e,?_⟩⟩)
 rw[hnew]
 exact⟨.ref _,_,I.lnew (t':=s.toks) (r.rep k.toNat) (by rw[y5n,Nat.mul_comm];exact hz),rfl,q _ I.fresh⟩
end
section
variable {prog:Program}{w:World}{A:Around}{E:Value→Shared→Prop}{s:Shared}
end
section
variable {X:Cx}
end
end L2
namespace Att
open PySem PySem.W PySem.Calls PyProof.Rows
theorem z4F {P:Params}{h:Heap}:∀(ns:List Int) (vs:List Value),WellAll P h vs (ns.map WData.int)→IntsAre vs ns:=by
 intro ns
 induction ns with
 |nil=>
  intro vs w
  rw[List.map_nil] at w
  cases w
  exact .nil
 |cons n ns ih=>
  intro vs w
  rw[q0u] at w
  cases w with
  |cons a b=>
   cases a
   exact .cons _ _ (ih _ b)
theorem y0N {l:OpenLaw}{n:Nat} (hn:l.most=some n) {P:Params}{h:Heap}{args:List WData}{vals:List Value}
 (hpre:l.row.toRowW.claim.pre args=true) (hwl:WellAll P h vals args):
 ∃a vs ns,vals=[Value.ref a]∧args=[WData.list (ns.map WData.int)]∧h.get? a=some {cls:= .type "list",data:= .seq vs.toArray}∧IntsAre vs ns∧ns.length≤n:=by
 have hsh:WShape.hasAll [] args [.list .int]=true:=(pre_splitW hpre).1
 have hc:l.pre.holds [] {args:=args}=true:=(pre_splitW hpre).2
 obtain⟨d,r,rfl,h1,h2⟩:=hasAllW_cons hsh
 obtain rfl:=hasAllW_nil h2
 obtain⟨xs,rfl,h3⟩:=hasW_list h1
 obtain⟨ns,rfl⟩:=items_int h3
 have hlen:ns.length≤n:=by
  unfold OpenLaw.pre at hc
  have h4:(WTm.not (.lt (.lit (.int (n:Int))) (.len (.arg 0)))).holds [] {args:=[.list (ns.map .int)]}=true:=by
   have h4:=(holds_andW hc).1
   rw[hn] at h4
   exact h4
  have h5:=condW_of h4 (w_not (w_lt w_lit (w_len_list (w_arg rfl))))
  rw[q0a] at h5
  refine Nat.le_of_not_lt fun q=>?_
  have q':(n:Int)<((ns.length:Nat):Int):=by lia
  first
   |(rw[decide_eq_true q'] at h5;exact absurd h5 (by decide))
   |(simp at h5;lia)
 cases hwl with
 |cons w1 w2=>
  cases w2
  cases w1 with
  |list ho hall=>exact⟨_,_,ns,rfl,rfl,ho,z4F ns _ hall,hlen⟩
theorem y1f (l:OpenLaw) (args:List WData):l.row.toRowW.claim.post args (.bool true) args=true:=
 postW_of (r:=l.row.toRowW) (X:=(true==true))
  (show WShape.has [] (.bool true) .bool =true by first|rfl|decide|simp[WShape.has,WShape.arms,WShape.armsAll])
  (show (WTm.eq .res (.lit (.bool true))).value [] {args:=args,res:=some (.bool true),after:=args}=some (.bool (true==true)) from w_eq_bool (w_res rfl) w_lit) rfl
theorem attach_call {l:OpenLaw}{n:Nat}{q:Program}{loose:List Str}{XP:(Str→Option Value)→Heap→Prop}{YP:World→Heap→Prop}{d:DefRec}
 (hn:l.most=some n) (hdf:d.params.defaults=[])
 (call:∀(w:World) (s₀ s₁:Shared) (mg mb:Str→Option Value) (fa:Addr) (o:Obj) (pm cd doc:Value) (a:Addr) (vs:List Value) (ns:List Int),
  Ground q loose [] XP w s₀ mg mb s₁.heap→YP w s₁.heap→
  s₁.heap.get? fa=some o→o.data= .func (docDef d.name d.params d.body d.scope pm cd doc)→s₁.heap.CodeRec cd d.name→mg d.name=some (.ref fa)→
  s₁.heap.get? a=some {cls:= .type "list",data:= .seq vs.toArray}→IntsAre vs ns→ns.length≤n→s₁.gens= #[]→
  codeAny (model l.prog w) callerA (.call (.ref fa) ⟨[.ref a],[]⟩) (fun r s'=>r= .ok (.ret (.bool true))∧OldK s₁.heap s'.heap∧s'.os=s₁.os∧AllBare s'.gens) s₁):
 WalkO q loose XP YP l.row.toRowW d [] (fun f vs=>PySem.call f vs):=by
 intro w s₀ s₁ mg mb G Y fa o pm cd doc dV kV ho hd hcd hD hmg hg args vals as hpre hlay hrd hwl hlo
 obtain rfl:dV= .none :=Dflts.none hD hdf
 obtain rfl:kV= .none :=Dflts.noKw hD
 obtain⟨a,vs,ns,rfl,rfl,hobj,hints,hlen⟩:=y0N hn hpre hwl
 refine enter_call (codeAny_mono (call w s₀ s₁ mg mb fa o pm cd doc a vs ns G Y ho (fd_plain hd) hcd hmg hobj hints hlen hg) fun r s' hq=>?_)
 obtain⟨rfl,h2,h3,h4⟩:=hq
 exact⟨.inl ⟨.bool true,.bool true,[],rfl,fun _=>rfl,.bool true,y1f l _,fun _=>⟨List.Pairwise.nil,fun _ hm=>(nomatch hm)⟩⟩,h2,h3,h4⟩
section
variable {prog:Program}{w:World}{A:Around}{E:Value→Shared→Prop}{s:Shared}{K:Frag}
end
end Att
namespace L2
open PySem PySem.Spec PyProof.Rows
theorem z6t:∀{vs:List Value}{ns:List Int},IntsAre vs ns→Vals (ns.map V.int) vs
 |_,_,.nil => .nil
 |_,_,.cons n t h=> .cons ⟨t,rfl⟩ (z6t h)
def Only (H:Hp):Prop:=∀b,H b=none∨∃o xs,H b=some (.frz o (.lst xs))
theorem y3y {P:Program}{w:World}{K:PySem.W.Frag}{mg mb:Str→Option Value}{CX:CXT}{k:Nat}{fa a:Addr}{fd:FuncData}{x:Str}{sp:Sp}{s₁:Shared}{vs:List Value}{ns:List Int}
 (KX:K.In s₁.heap) (hns:s₁.heap.Ns mainGlobals mg) (hb:s₁.heap.Ns builtinsNs mb) (hbb:∀x:Str,x≠"__name__"→mb x=bootBuiltins x) (hlim:s₁.heap.NoLimit) (hg:s₁.gens= #[])
 (ha:s₁.heap.get? a=some {cls:= .type "list",data:= .seq vs.toArray}) (hi:IntsAre vs ns) (hl:ns.length≤sizeLine) (hr:Room k callerA)
 (F:∀base:Heap,K.In base→base.Ns mainGlobals mg→FnOk P w K mg base CX k fa fd [x] sp) (hbind:∀(s:Shared) (u:Value),BindsTo s fd ⟨[u],[]⟩ [(x,u)])
 (hsp:∀H:Hp,Only H→SqL K H a (ns.map V.int)→sp [.ref a] H (fun v _=>v= .bl true) fun _ _ _=>False)
 (hCX:∀H e s',CX [] H s₁ (fun _ _ _=>False) e s'→False):
 codeAny (model P w) callerA (.call (.ref fa) ⟨[.ref a],[]⟩) (fun r s'=>r= .ok (.ret (.bool true))∧OldK s₁.heap s'.heap∧s'.os=s₁.os∧AllBare s'.gens) s₁:=by
 have rv:=z6t hi
 have lenV:=hi.length
 have core:∀H:Hp,Only H→SqL K H a (ns.map V.int)→HOk P w H s₁.heap→(∀b,H b≠none→b=a)→(H a≠none→K.lookup a=none)→
  codeAny (model P w) callerA (.call (.ref fa) ⟨[.ref a],[]⟩) (fun r s'=>r= .ok (.ret (.bool true))∧OldK s₁.heap s'.heap∧s'.os=s₁.os∧AllBare s'.gens) s₁:=by
  intro H hO hS hok hA hK
  have base_of:∀{b:Addr}{o:Obj},s₁.heap.get? b=some o→H b=none→(y3D s₁.heap H).get? b=some o:=fun e n=>y3C e n
  have noA:∀{b:Addr}{o:Obj}{es:Array DictEntry}{ep:Nat},s₁.heap.get? b=some o→o.data= .dict es ep→H b=none:=fun {b o es ep} e d=>by
   cases q:H b with
   |none=>rfl
   |some u=>
    have e':b=a:=hA b (by rw[q];simp)
    subst e'
    rw[ha] at e;cases e
    have d':Data.seq vs.toArray _=Data.dict es ep:=d
    cases d'
  have nsK:∀{b:Addr}{m:Str→Option Value},s₁.heap.Ns b m→(y3D s₁.heap H).Ns b m:=fun {b m} ⟨o,es,ep,e,d,r⟩=>⟨o,es,ep,base_of e (noA e d),d,r⟩
  have hKb:K.In (y3D s₁.heap H):=fun b o e=>base_of (KX b o e) (by
   cases q:H b with
   |none=>rfl
   |some u=>
    have e':b=a:=hA b (by rw[q];simp)
    subst e'
    rw[hK (by rw[q];simp)] at e;cases e)
  have hM:Mod K mg (y3D s₁.heap H):=⟨hKb,nsK hns,⟨mb,nsK hb,hbb⟩,let ⟨mc,h1,h2⟩:=hlim;⟨mc,nsK h1,h2⟩⟩
  have e0:Env0 P w K mg (y3D s₁.heap H) callerA [] s₁ H:=⟨rfl,hM,fun b o e=>y5i e,Nat.le_of_eq (y1W _ _),trivial,fun b hb=>absurd (show b∈([]:List Addr) from hb) (by simp),hok,.of_eq hg⟩
  refine codeAny_mono ((F _ hKb (nsK hns)).run callerA [] s₁ H ⟨[.ref a],[]⟩ [.ref a] [.ref a] _ _ hr e0 (hbind s₁ (.ref a)) (.cons rfl .nil) (hsp H hO hS)) fun r s' h=>?_
  cases r with
  |error e=>exact (hCX H e s' h).elim
  |ok fl=>
   cases fl with
   |next=>exact False.elim h
   |brk=>exact False.elim h
   |cont=>exact False.elim h
   |ret u=>
    obtain⟨v,H',os,bare,un,hok',r',q⟩:=h
    have q':v= .bl true:=q
    subst q'
    obtain rfl:u=Value.bool true:=r'
    refine⟨rfl,OldK.of_keep fun b o e=>?_,os,bare⟩
    cases q:H b with
    |none=>exact un.keep b o e q (by intro z;exact absurd (show b∈([]:List Addr) from z) (by simp)) (by simp)
    |some u=>
     rcases hO b with z|⟨ob,xs,z⟩
     ·rw[q] at z;cases z
     ·have z2:=un.frzs b ob _ z
      obtain⟨e1,_⟩:=hok b _ z
      obtain⟨e2,_⟩:=hok' b _ z2
      rw[e] at e1;cases e1
      exact e2
 cases hk:K.lookup a with
 |some o=>
  have e:=KX a o hk
  rw[ha] at e
  cases e
  refine core (fun _=>none) (fun _=> .inl rfl) (.inr ⟨_,vs.toArray,_,hk,rfl,rfl,rfl,by rw[q0e,lenV];exact hl,by simpa using rv⟩) (fun b u z=>by have z':(none:Option HO)=some u:=z;cases z') (fun b z=>absurd rfl z) fun z=>absurd rfl z
 |none=>
  refine core (fun b=>if b=a then some (.frz {cls:= .type "list",data:= .seq vs.toArray} (.lst (ns.map V.int))) else none) (fun b=>?_) (.inl (.inr ⟨{cls:= .type "list",data:= .seq vs.toArray},if_pos rfl⟩)) (fun b u z=>?_) (fun b z=>?_) fun _=>hk
  ·by_cases hb:b=a
   ·exact .inr ⟨_,_,if_pos hb⟩
   ·exact .inl (if_neg hb)
  ·by_cases hb:b=a
   ·have z':=(if_pos hb).symm.trans z
    cases z'
    subst hb
    exact⟨ha,by rw[q0a];exact hl,vs,_,rv,ha⟩
   ·have z':=(if_neg hb).symm.trans z
    cases z'
  ·by_cases hb:b=a
   ·exact hb
   ·exact absurd (if_neg hb) z
end L2
namespace L2
open PySem PySem.Spec PyProof.Rows
theorem walk_of {l:PySem.W.OpenLaw}{n k:Nat}{q:Program}{loose:List Str}{XP:(Str→Option Value)→Heap→Prop}{YP:World→Heap→Prop}{d:DefRec}{K:Params→PySem.W.Frag}{CX:World→CXT}{sp:World→Sp}{x:Str}
 (hn:l.most=some n) (hn2:n≤sizeLine) (hdf:d.params.defaults=[]) (hr:Room k callerA)
 (hY:∀(w:World) (h:Heap),YP w h→(K w.params).In h)
 (F:∀(w:World) (mg:Str→Option Value) (fa:Addr) (h:Heap),(K w.params).In h→h.Ns mainGlobals mg→mg d.name=some (.ref fa)→
  ∃fd:FuncData,(∀(s:Shared) (u:Value),BindsTo s fd ⟨[u],[]⟩ [(x,u)])∧
   ∀base:Heap,(K w.params).In base→base.Ns mainGlobals mg→FnOk l.prog w (K w.params) mg base (CX w) k fa fd [x] (sp w))
 (hsp:∀(w:World) (H:Hp) (a:Addr) (ns:List Int),ns.length≤n→Only H→SqL (K w.params) H a (ns.map V.int)→sp w [.ref a] H (fun v _=>v= .bl true) fun _ _ _=>False)
 (hCX:∀(w:World) (H:Hp) (s:Shared) (e:Value) (s':Shared),CX w [] H s (fun _ _ _=>False) e s'→False):
 PySem.W.WalkO q loose XP YP l.row.toRowW d [] (fun f vs=>PySem.call f vs):=by
 refine Att.attach_call hn hdf fun w s₀ s₁ mg mb fa o pm cd doc a vs ns G Y ho hd hcd hmg hobj hints hlen hg=>?_
 have KX:=hY w _ Y
 obtain⟨fd,hb,hF⟩:=F w mg fa _ KX G.T.g hmg
 exact y3y KX G.T.g G.T.b G.T.builtins G.T.nolimit hg hobj hints (q0p hlen hn2) hr hF hb (fun H hO hS=>hsp w H a ns hlen hO hS) fun H e s'=>hCX w H s₁ e s'
end L2
namespace L2
open PySem PySem.Spec PyProof.Rows
def z2W (s:Stmt) (j:Nat):Stmt:=match s with
 | .ClassDef _ _ _ body _ _ _ _ _ _ _=>body.getD j (.Pass ⟨0,0,0,0⟩)
 |_=> .Pass ⟨0,0,0,0⟩
def z1l (s:Stmt):Arguments:=match s with
 | .FunctionDef _ a _ _ _ _ _ _ _ _=>a
 |_=>{posonlyargs:=[],args:=[],vararg:=none,kwonlyargs:=[],kw_defaults:=[],kwarg:=none,defaults:=[]}
def z1h (s:Stmt):List Stmt:=match s with
 | .FunctionDef _ _ b _ _ _ _ _ _ _=>b
 |_=>[]
def z0i (s:Stmt):Scope:=match s with
 | .FunctionDef _ _ _ _ _ _ sc _ _ _=>sc
 |_=>{kind:= .function,names:=[],isGenerator:=false,isCoroutine:=false}
abbrev CX0:CXT:=fun _ _ _ _ _ _=>False
abbrev E0:XK:=fun _ _ _=>False
theorem z3H {X:Cx}:z4L CX0 X E0:=fun _ _ _ _ _ _ _ h=>h.elim
structure Fun (K:PySem.W.Frag) (x qual:Str) (st:Stmt) (f:Addr) (fd:FuncData):Prop where
 ex:∃(oc:Value) (od:Option Addr) (kV doc pm:Value) (an:Option Addr) (cdv ct:Value) (osl:Array (Option Value)),
  fd=PySem.W.fnOf x qual (z1l st) (z1h st) (z0i st) .none kV doc pm an cdv ct∧K.lookup f=some ⟨oc,od,.func fd,osl⟩∧PySem.W.codeIn K cdv qual=true
 kp:PySem.W.keepIn K (.ref f)=true
section
variable {P:Program}{w:World}{K:PySem.W.Frag}{mg:Str→Option Value}{base:Heap}
theorem Fun.ok {x qual:Str}{st:Stmt}{f:Addr}{fd:FuncData}{N ps:List Str}{k:Nat}{sp:Sp} (F:Fun K x qual st f fd) (S:z0q N ps (z0i st)) (len:∀vs H Q E,sp vs H Q E→vs.length=ps.length)
 (hbody:∀(cdv:Value) (A:Around) (outer:List Env) (s:Shared) (H:Hp) (vs:List V) (Q:VK) (E:XK),Room k (A.deeper (envOfC qual (z0i st) s.heap.objs.size f cdv))→sp vs H Q E→
  ∃t,PSs (y5Q CX0 P w K mg base N qual (z0i st) f cdv A outer s H E).nox (z1h st) t∧t {nx:=fun _ H'=>Q .non H',rt:=Q} (z6y N vs) H):FnOk P w K mg base CX0 (k+1) f fd ps sp:=by
 obtain⟨oc,od,kV,doc,pm,an,cdv,ct,osl,rfl,lk,hcd⟩:=F.ex
 refine fn_of lk hcd S len fun A outer s H vs Q E hr hsp=>?_
 obtain⟨t,h,q⟩:=hbody cdv A outer s H vs Q E hr hsp
 exact⟨t,h.nox,q⟩
theorem Fun.binds {x qual:Str}{st:Stmt}{f:Addr}{fd:FuncData}{ps:List Str} (F:Fun K x qual st f fd)
 (h:∀(kV doc pm:Value) (an:Option Addr) (cdv ct:Value) (us:List Value),us.length=ps.length→bindArgs (PySem.W.fnOf x qual (z1l st) (z1h st) (z0i st) .none kV doc pm an cdv ct) ⟨us,[]⟩=pure (ps.zip us)):Binds K fd ps []:=by
 obtain⟨oc,od,kV,doc,pm,an,cdv,ct,osl,rfl,lk,hcd⟩:=F.ex
 exact .all (h kV doc pm an cdv ct)
theorem z2P {x qual:Str}{st:Stmt}{f:Addr}{oc:Value}{od an:Option Addr}{osl:Array (Option Value)}{kV doc pm cdv ct:Value} (l:K.lookup f=some ⟨oc,od,.func (PySem.W.fnOf x qual (z1l st) (z1h st) (z0i st) .none kV doc pm an cdv ct),osl⟩)
 (c:PySem.W.codeIn K cdv qual=true) (k:PySem.W.keepIn K (.ref f)=true):Fun K x qual st f (PySem.W.fnOf x qual (z1l st) (z1h st) (z0i st) .none kV doc pm an cdv ct):=⟨⟨oc,od,kV,doc,pm,an,cdv,ct,osl,rfl,l,c⟩,k⟩
end
theorem hu_of {A:Around}{k:Nat} (hr:Room k A):A.units+1<cLine:=Nat.lt_of_le_of_lt (Nat.add_le_add_left (by decide:1≤64) _) hr.units
section
variable {X:Cx}
theorem pv (i:Nat) {x:Str}{pos:Pos} (hN:X.N[i]? =some x:=by rfl) (hv:Vis X.env.scope x:=by first|exact Or.inl rfl|exact Or.inr (Or.inl rfl)|exact Or.inr (Or.inr rfl)) (hd:(x==("__debug__":Str))=false:=by decide)
 (hcd:(x==("__classdict__":Str))=false:=by decide):PE X (.Name x pos) (tVar i):=y6p hN hv hd hcd
end
theorem z1I {A B:Prop} (h:B):if false=true then A else B:=by
 rw[if_neg q0z]
 exact h
theorem z4N {A B:Prop} (h:A):if true=true then A else B:=by
 rw[if_pos rfl]
 exact h
theorem z3i {c A B:Prop} [Decidable c] (h1:c→A) (h2:¬c→B):if c then A else B:=by
 by_cases h:c
 ·rw[if_pos h]
  exact h1 h
 ·rw[if_neg h]
  exact h2 h
theorem y3A {c A B:Prop} [Decidable c] (hc:c) (h:B):if (!decide c)=true then A else B:=by
 rw[decide_eq_true hc]
 exact z1I h
def Same (H H':Hp):Prop:=∀b o,H b=some o→H' b=some o
theorem Same.refl (H:Hp):Same H H:=fun _ _ h=>h
theorem Same.trans {H H1 H2:Hp} (a:Same H H1) (b:Same H1 H2):Same H H2:=fun c o h=>b c o (a c o h)
theorem Same.free {H H':Hp} (e:Same H H') {l:Addr} (h:H' l=Option.none):H l=Option.none:=by
 cases q:H l with
 |none=>rfl
 |some o=>
  rw[e l o q] at h
  cases h
end L2
namespace L2
open PySem PySem.Spec PyProof.Rows
section
variable {X:Cx}{pins:List (Addr×Obj)}{σ:St}{H:Hp}{s:Shared}{h':Heap}
theorem Inv.turnedLaid {fp:List Addr}{a:Addr}{o:HO}{t':Nat} (I:Inv X pins σ H s) (hf:∀b∈fp,y2C X pins H b) (k:∀b ob,b∉fp→s.heap.get? b=some ob→h'.get? b=some ob)
 (hp:s.heap.objs.size≤a) (new:ObjOk X.prog X.w (upd H a o) h' a o):Inv X pins σ (upd H a o) {s with heap:=h',toks:=t'}:=by
 have hn:H a=none:=I.hok.fresh hp
 have nit:∀b u,H b=some u→b∉fp:=fun b u e z=>by rw[(hf b z).1] at e;cases e
 refine I.step (g':=s.gens) (d':=s.drawn) (ch:=fp) (fun b hb=>?_) (fun b ob _ _ hc e _=>k b ob hc e) (fun b ob _ _ hc e _=>⟨ob.slots,k b ob hc e⟩) (fun b ob hc e n=>?_)
  (fun b ob hc e=>⟨ob,k b ob hc e⟩) (fun b xs q=>by rw[z0l (z0h q hn)];exact q) (fun b u xs q=>by rw[z0l (z0h q hn)];exact q)
  (fun b ps q=>⟨#[],by rw[z0l (z0h q hn),q];simp⟩) (fun m hm=>?_) (fun b u e=>?_) I.bare
 ·obtain⟨f0,f1,f2,f3,f4,f5⟩:=hf b hb
  exact⟨f3,f1,f4,f5⟩
 ·rw[z0l (q0w (q0N (q0q e) hp))];exact n
 ·obtain⟨ob,es,ep,ho,r⟩:=hm
  exact⟨ob,es,ep,k _ ob (fun z=>(hf _ z).2.1 rfl) ho,r⟩
 ·by_cases hb:b=a
  ·subst hb;rw[z0d] at e;cases e;exact new
  ·rw[z0l hb] at e
   refine (I.hok b u e).stay (fun c v hc q=>k c v ?_ q) (fun c q=>by rw[z0l (z0h q hn)];exact q) fun c xs q=>by rw[z0l (z0h q hn)];exact q
   rcases hc with z|z
   ·rw[z];exact nit b u e
   ·exact nit c _ z
theorem Inv.turnedAll {fp:List Addr}{t':Nat} (I:Inv X pins σ H s) (hf:∀b∈fp,y2C X pins H b) (k:∀b ob,b∉fp→s.heap.get? b=some ob→h'.get? b=some ob):Inv X pins σ H {s with heap:=h',toks:=t'}:=by
 have nit:∀b u,H b=some u→b∉fp:=fun b u e z=>by rw[(hf b z).1] at e;cases e
 refine I.step (g':=s.gens) (d':=s.drawn) (ch:=fp) (fun b hb=>?_) (fun b ob _ _ hc e _=>k b ob hc e) (fun b ob _ _ hc e _=>⟨ob.slots,k b ob hc e⟩) (fun b ob hc e n=>n)
  (fun b ob hc e=>⟨ob,k b ob hc e⟩) (fun b xs q=>q) (fun b u xs q=>q) (fun b ps q=>⟨#[],by rw[q];simp⟩) (fun m hm=>?_) (fun b u e=>?_) I.bare
 ·obtain⟨f0,f1,f2,f3,f4,f5⟩:=hf b hb
  exact⟨f3,f1,f4,f5⟩
 ·obtain⟨ob,es,ep,ho,r⟩:=hm
  exact⟨ob,es,ep,k _ ob (fun z=>(hf _ z).2.1 rfl) ho,r⟩
 ·refine (I.hok b u e).stay (fun c v hc q=>k c v ?_ q) (fun c q=>q) fun c xs q=>q
  rcases hc with z|z
  ·rw[z];exact nit b u e
  ·exact nit c _ z
end
def Ite (K:PySem.W.Frag) (a:Addr):It:=
 ⟨fun i H=>∃xs x,SqL K H a xs∧xs[i]? =some x,
  fun i H x H'=>∃p v,x= .ref p∧H p=none∧(∀xs,SqL K H a xs→xs[i]? =some v)∧H'=upd H p (.tup [.int i,v]),
  fun i H=>∃xs,SqL K H a xs∧xs.length≤i⟩
theorem y0q {P:Program}{w:World}{K:PySem.W.Frag}{elts:List Expr}{k:Nat}{pos:Pos} (a e it:Addr) (hne:e≠it):
 y5M P w K (.Tuple elts k pos) (Ite K a) [e,it] e (fun i h=>(∃old,IsEnum h e it ((i:Nat):Int) old)∧h.IsListIter it a i) where
 mem:=by simp
 obj:=fun i h st b hb=>by
  obtain⟨⟨old,st1⟩,st2⟩:=st
  rcases q0r.mp hb with rfl|hb
  ·exact⟨_,st1,fun v z=>by
        have z':Data.fields _=Data.cell v:=z
        cases z'⟩
  ·have e':=q0m.mp hb
   subst e'
   obtain⟨o,q,c,d⟩:=st2
   exact⟨o,q,fun v z=>by rw[d] at z;cases z⟩
 keep:=fun i h h' st k=>⟨let ⟨old,q⟩:=st.1;⟨old,k e (by simp) _ q⟩,st.2.at fun o q=>k it (by simp) o q⟩
 item:=by
  intro X hP hw hK hc i pins s σ H E I hf st hg
  subst hP hw hK
  obtain⟨xs,x,hq,hx⟩:=hg
  obtain⟨its,rv,p,hz⟩:=I.list hq
  obtain⟨u,hu,ru⟩:=rv.get hx
  obtain⟨⟨old,st1⟩,st2⟩:=st
  have he:=hf e (by simp)
  have hi:=hf it (by simp)
  have hlt:e<s.heap.objs.size:=q0q st1
  have hlt2:it<s.heap.objs.size:=by obtain⟨o,q,_⟩:=st2;exact q0q q
  refine wpAny_pyNext_enum_item st1 st2 p.isList (x:=u) (by simpa using hu) hne fun h' ho' st' hT hsz kk=>?_
  refine⟨_,rfl,wpAny_letOwnedTupleGo_enum ho' fun h2 he2 hs2=>?_⟩
  have hT2:h2.get? s.heap.objs.size=some {cls:= .type "tuple",data:= .seq #[.int i s.toks,u]}:=hs2.extBut _ _ (Nat.ne_of_gt hlt) hT
  have I1:Inv X pins σ (upd H s.heap.objs.size (.tup [.int i,x])) {s with heap:=h2,toks:=s.toks+1}:=by
   refine I.turnedLaid (fp:=[e,it]) hf (fun b ob hb q=>?_) (q0j _) ?_
   ·have hb1:b≠e:=fun z=>hb (by simp[z])
    have hb2:b≠it:=fun z=>hb (by simp[z])
    exact hs2.extBut b ob hb1 (kk b ob hb1 hb2 q)
   ·exact⟨by show 2≤sizeLine;decide,[.int i s.toks,u],.cons ⟨_,rfl⟩ (.cons ru .nil),_,hT2,rfl,_,rfl⟩
  refine⟨.ref s.heap.objs.size,_,I1,rfl,⟨_,x,rfl,I.hok.fresh (q0j _),fun ys hy=>by rw[I.list_inj hy hq];exact hx,rfl⟩,⟨⟨_,by simpa using he2⟩,?_⟩,fun b hb=>?_⟩
  ·exact st'.at fun o q=>hs2.extBut it o (Ne.symm hne) q
  ·rcases q0r.mp hb with rfl|hb
   ·rw[z0l (q0w hlt)];exact he.1
   ·have e':=q0m.mp hb
    subst e'
    rw[z0l (q0w hlt2)];exact hi.1
 done:=by
  intro X hP hw hK hc i pins s σ H E I hf st hg
  subst hP hw hK
  obtain⟨xs,hq,hx⟩:=hg
  obtain⟨its,rv,p,hz⟩:=I.list hq
  obtain⟨⟨old,st1⟩,st2⟩:=st
  have hl:=rv.length
  refine wpAny_pyNext_enum_end (I.ok.hd hc) st1 st2 p.isList (by simp;lia) fun h' eb=>⟨rfl,?_⟩
  exact I.turnedAll (t':=s.toks) (fp:=[e,it]) hf fun b ob hb q=>eb b ob (fun z=>hb (by simp[z])) q
 self:=fun _ _ _ _ _ st h=>let ⟨_,q⟩:=st.1;wpAny_pyIter_enum q h
section
variable {X:Cx}
def iEnum (tl:TA):TI:=fun σ H R=>tl σ H fun vs H1=>∃a xs,vs=[.ref a]∧H1 a=some (.lst xs)∧R (Ite X.K a) H1
theorem y4T {elts:List Expr}{k:Nat}{tpos:Pos}{l:Expr}{tl:TA}{p pos:Pos} (hg:Gl X "enumerate") (hm:X.mg "enumerate"=none) (ha:PA X [l] tl) (hs:starEach [l] X.env=[(false,eval l X.env)]:=by rfl):
 PI X (.Tuple elts k tpos) (.Call (.Name "enumerate" p) [l] [] pos) (iEnum (X:=X) tl):=by
 intro pins s σ H R I h
 refine Call_ (z3D I hg hm boot_enumerate (PyProof.Rows.callWith_type1 (thn (ha pos pins s σ H _ I h) fun us s1 ⟨vs,H1,I1,r1,q1⟩=>?_) hs rfl))
 obtain⟨a,xs,e,hq,q⟩:=q1
 subst e
 cases r1 with
 |cons r rr=>
  cases rr
  cases r
  obtain⟨hz,its,n,rv,hlen,ho⟩:=I1.lstM hq
  refine call_enumerate_1 ho fun h' he hit hsz kk=>wpAny_pyIter_enum he ?_
  have I2:Inv X pins σ H1 {s1 with heap:=h'}:=I1.kept (t':=s1.toks) kk
  refine⟨_,[s1.heap.objs.size+1,s1.heap.objs.size],_,_,H1,rfl,I2,y0q a _ _ (Nat.succ_ne_self _),⟨⟨_,he⟩,hit⟩,fun b hb=>?_,q⟩
  have fr:∀c,s1.heap.objs.size≤c→H1 c=none:=fun c hc=>I1.hok.fresh hc
  rcases q0r.mp hb with rfl|hb
  ·exact I1.fpOk (q1v _) (fr _ (q1v _))
  ·have e':=q0m.mp hb
   subst e'
   exact I1.fpOk (q0j _) (fr _ (q0j _))
end
end L2
namespace L2
open PySem PySem.Spec PyProof.Rows
open Builtin.Int (intBits)
section
variable {X:Cx}{a b c:Expr}{ta tb tc:TE}{pos:Pos}
theorem z0I:OpR X (binaryOp .Mult) (rI IntMulOk fun i j=> .int (i*j)):=opI fun _ _ _ _ _ _ _ hc q=>mul_int q hc
def CFd (_ j:Int):Prop:=j≠0∧intBits j≤9000
theorem noPy {i j:Int} (h:CFd i j):Builtin.divisionGoesByPylong i j=false:=by
 refine PyProof.noPylong_of_log2 ?_
 have h1:=intBits_le_iff.mp h.2
 have h0:j.natAbs≠0:=by have:=h.1;lia
 exact (Nat.log2_lt h0).mpr h1
theorem z3e:OpR X (binaryOp .FloorDiv) (rI CFd fun i j=> .int (i.fdiv j)):=opI fun _ _ _ _ _ _ _ hc q=>floordiv_int hc.1 q (.inl (noPy hc))
def CFp (_ j:Int):Prop:=0<j∧intBits j≤9000
theorem z1v:OpR X (binaryOp .FloorDiv) (rI CFp fun i j=> .int (i/j)):=opI fun i j _ _ _ _ _ hc q=>by
 have h0:j≠0:=by have:=hc.1;lia
 refine floordiv_int h0 ?_ (.inl (noPy ⟨h0,hc.2⟩))
 rw[Int.fdiv_eq_ediv_of_nonneg i (q1h hc.1)]
 exact q
def CMod (_ j:Int):Prop:=0<j
theorem z0Z:OpR X (binaryOp .Mod) (rI CMod fun i j=> .int (i%j)):=y6x
theorem cm {i j:Int} (h:decide (0<j)=true:=by rfl):CMod i j:=(show 0<j from of_decide_eq_true h)
theorem cf {i j:Int} (h:decide (0<j)=true:=by rfl) (h2:decide (intBits j≤9000)=true:=by rfl):CFp i j:=⟨(show 0<j from of_decide_eq_true h),(show intBits j≤9000 from of_decide_eq_true h2)⟩
theorem z7O {i j v:Int} (h:i^j.toNat=v) (ha:PE X a (tC (.int i))) (hb:PE X b (tC (.int j))) (hm:0≤j∧j≤1000000∧i.natAbs<2^64:=by decide):PE X (.BinOp a .Pow b pos) (tC (.int v)):=by
 subst h
 exact fun pins s σ H Q I q=>z0v y6v ha hb pins s σ H Q I ⟨i,j,rfl,rfl,hm,q⟩
theorem z1b:z2t X (.builtin "isinstance") (fun xs H Q=>∃x n t k,xs=[x,.ty n]∧y0k X.K H x t∧PySem.W.kitOne X.K t (.type n)=some k∧Q (.bl k) H):=by
 intro pins s σ H xs us Q I r h
 obtain⟨x,n,t,k,rfl,ty,e,q⟩:=h
 obtain⟨u,w',rfl,r1,r2⟩:=y2H r
 cases (show w'=Value.type n from r2)
 exact y1Q I r1 ty e fun tk=>⟨.bl k,H,I.tok tk,rfl,q⟩
end
structure Cal (P:Program) (w:World) (K:PySem.W.Frag) (mg:Str→Option Value) (base:Heap) (n:Nat) (x:Str) (ps:List Str) (sp:Sp):Prop where
 ex:∃g gd,FnOk P w K mg base CX0 n g gd ps sp∧Binds K gd ps []∧PySem.W.keepIn K (.ref g)=true∧mg x=some (.ref g)
theorem Cal.mono {P:Program}{w:World}{K:PySem.W.Frag}{mg:Str→Option Value}{base:Heap}{n m:Nat}{x:Str}{ps:List Str}{sp:Sp} (c:Cal P w K mg base n x ps sp) (h:n≤m):Cal P w K mg base m x ps sp:=
 let ⟨g,gd,F,b,k,m⟩:=c.ex
 ⟨g,gd,F.mono h,b,k,m⟩
section
variable {X:Cx}{e:Expr}{es:List Expr}{t:TA}{p pos:Pos}
theorem z0m {n:Nat}{x:Str}{ps:List Str}{sp:Sp} (c:Cal X.prog X.w X.K X.mg X.base n x ps sp) (hr:Room n X.A) (hg:Gl X x) (ha:PA X (e::es) t) (hdb:(x==("__debug__":Str))=false:=by decide)
 (he:starEach (e::es) X.env=(false,eval e X.env)::starEach es X.env:=by rfl) (hpl:(backTo pos (starEach es X.env)).any (·.1)=false:=by rfl):PE X (.Call (.Name x p) (e::es) [] pos) (y6a sp [] E0 t):=by
 obtain⟨g,gd,F,b,k,m⟩:=c.ex
 exact y4V F hr hg m k b .nil z3H ha hdb he hpl
end
theorem z0f {H:Hp}{p:Addr} (h:H p=none) (o:HO):Same H (upd H p o):=fun b u q=>by rw[z0l (z0h q h)];exact q
theorem Rd.same {H H':Hp}{a:Addr}{u:HO} (g:Same H H') (r:Rd H a u):Rd H' a u:=by
 rcases r with r|⟨o,r⟩
 ·exact .inl (g _ _ r)
 ·exact .inr ⟨o,g _ _ r⟩
theorem SqT.same {K:PySem.W.Frag}{H H':Hp}{a:Addr}{xs:List V} (g:Same H H') (h:SqT K H a xs):SqT K H' a xs:=by
 rcases h with h|h
 ·exact .inl (h.same g)
 ·exact .inr h
theorem SqL.same {K:PySem.W.Frag}{H H':Hp}{a:Addr}{xs:List V} (g:Same H H') (h:SqL K H a xs):SqL K H' a xs:=by
 rcases h with h|h
 ·exact .inl (h.same g)
 ·exact .inr h
def FrA (H:Hp) (v:V) (x y:Int):Prop:=∃p,v= .ref p∧H p=some (.tup [.int x,.int y])
theorem FrA.same {H H':Hp}{v:V}{x y:Int} (g:Same H H') (h:FrA H v x y):FrA H' v x y:=let ⟨p,e,q⟩:=h;⟨p,e,g _ _ q⟩
theorem z1u {i j:Int}{m n:Nat} (hi:intBits i≤m) (hj:intBits j≤n) (h:m+n≤134217728:=by lia):IntMulOk i j:=IntMulOk.of_le hi hj h
end L2
namespace L2
open PySem PySem.Spec PySem.W PyProof.Rows
section
variable {prog:Program}{w:World}{A:Around}{E:Value→Shared→Prop}{h:Heap}{gn:Array GenState}{dr:Drawn}{tt:Nat}{os:OsState}{K:Frag}{x D:Addr}{ox:Obj}{odo:Option Obj}{name:Str}
end
theorem z6U {o:Obj}{vs:Array Value} (hd:o.data= .fields vs) (f:Array Value→Array Value):o.mapFields f={o with data:= .fields (f vs)}:=by
 obtain⟨c,d,dt,sl⟩:=o
 subst hd
 rfl
section
variable {M:Model}{A:Around}{E:Value→Shared→Prop}{s:Shared}{base:Heap}{env:Env}{outer:List Env}{L a:Addr}{oe:Obj}{vs:Array Value}{Q:Unit→Shared→Prop}
end
end L2
namespace L2
open PySem PySem.Spec PySem.W PyProof.Rows
section
variable {X:Cx}{pins:List (Addr×Obj)}{σ:St}{H:Hp}{s:Shared}{a:Addr}{cls:Value}{dx:Option Addr}
end
section
variable {X:Cx}{pins:List (Addr×Obj)}{σ:St}{H:Hp}{s:Shared}{a:Addr}{cls:Value}{dx:Option Addr}{E:XK}
end
end L2
namespace L2
open PySem PySem.Spec PySem.W PyProof.Rows
theorem Cal.imp {P:Program}{w:World}{K:PySem.W.Frag}{mg:Str→Option Value}{base:Heap}{n:Nat}{x:Str}{ps:List Str}{sp sp':Sp} (c:Cal P w K mg base n x ps sp) (h:∀vs H Q E,sp' vs H Q E→sp vs H Q E):Cal P w K mg base n x ps sp':=
 let ⟨g,gd,F,b,k,m⟩:=c.ex
 ⟨g,gd,F.imp h,b,k,m⟩
section
variable {X:Cx}{e:Expr}{es:List Expr}{t:TA}{p pos:Pos}
end
section
variable {P:Program}{w:World}{K:PySem.W.Frag}{mg:Str→Option Value}{base:Heap}
end
section
variable {X:Cx}{E:XK}{C:Addr}{x:Str}{np cpos pos:Pos}{e₀:Expr}{rest:List Expr}{ta:TA}
end
section
variable {X:Cx}{pins:List (Addr×Obj)}{σ:St}{H:Hp}{s:Shared}
end
section
variable {X:Cx}{fx cx n:Str}{fp cpos xpos hp hpos tpos:Pos}{e:Expr}{es:List Expr}{ta:TA}{k j:Nat}{ps:List Str}{sp:Sp}{W:Addr}{st0:Stmt}{ts:TS}
end
section
variable {X:Cx}
end
end L2
namespace L2
open PySem PySem.Spec PyProof.Rows
inductive Dt where
 |i (n:Int)
 |t (l:List Dt)
 |l (l:List Dt)
mutual
inductive IsD (K:PySem.W.Frag) (H:Hp):V→Dt→Prop
 |i (n:Int):IsD K H (.int n) (.i n)
 |t {a:Addr}{xs:List V}{ds:List Dt}:SqT K H a xs→IsDs K H xs ds→IsD K H (.ref a) (.t ds)
 |l {a:Addr}{xs:List V}{ds:List Dt}:SqL K H a xs→IsDs K H xs ds→IsD K H (.ref a) (.l ds)
inductive IsDs (K:PySem.W.Frag) (H:Hp):List V→List Dt→Prop
 |nil:IsDs K H [] []
 |cons {x:V}{d:Dt}{xs:List V}{ds:List Dt}:IsD K H x d→IsDs K H xs ds→IsDs K H (x::xs) (d::ds)
end
mutual
def Dt.eqb:Dt→Dt→Bool
 | .i n,.i m=>n==m
 | .t a,.t b=>Dt.eqs a b
 | .l a,.l b=>Dt.eqs a b
 |_,_=>false
def Dt.eqs:List Dt→List Dt→Bool
 |[],[]=>true
 |x::a,y::b=>Dt.eqb x y&&Dt.eqs a b
 |_,_=>false
end
mutual
theorem Dt.eqb_iff:∀(d e:Dt),Dt.eqb d e=true↔d=e
 | .i n,.i m=>by simp[Dt.eqb]
 | .t a,.t b=>by simp only[Dt.eqb,Dt.t.injEq];exact Dt.eqs_iff a b
 | .l a,.l b=>by simp only[Dt.eqb,Dt.l.injEq];exact Dt.eqs_iff a b
 | .i _,.t _=>by simp[Dt.eqb]
 | .i _,.l _=>by simp[Dt.eqb]
 | .t _,.i _=>by simp[Dt.eqb]
 | .t _,.l _=>by simp[Dt.eqb]
 | .l _,.i _=>by simp[Dt.eqb]
 | .l _,.t _=>by simp[Dt.eqb]
theorem Dt.eqs_iff:∀(a b:List Dt),Dt.eqs a b=true↔a=b
 |[],[]=>by simp[Dt.eqs]
 |x::a,y::b=>by simp only[Dt.eqs,Bool.and_eq_true,List.cons.injEq,Dt.eqb_iff x y,Dt.eqs_iff a b]
 |[],_::_=>by simp[Dt.eqs]
 |_::_,[]=>by simp[Dt.eqs]
end
mutual
def Dt.ok:Nat→Dt→Dt→Bool
 |_,.i _,.i _=>true
 |n+1,.t a,.t b=>Dt.oks n a b
 |n+1,.l a,.l b=>Dt.oks n a b
 |_,_,_=>false
def Dt.oks:Nat→List Dt→List Dt→Bool
 |n,x::a,y::b=>Dt.ok n x y&&Dt.oks n a b
 |_,_,_=>true
end
section
variable {X:Cx}{pins:List (Addr×Obj)}{σ:St}{H:Hp}{s:Shared}{K:PySem.W.Frag}
theorem IsDs.length:∀{xs:List V}{ds:List Dt},IsDs K H xs ds→xs.length=ds.length
 |_,_,.nil =>rfl
 |_,_,.cons _ r=>by rw[List.length_cons,List.length_cons,r.length]
theorem z4V (n:Nat) (e:Nat→Bool):(List.range (n+1)).all e=(e 0&&(List.range n).all fun j=>e (j+1)):=by
 rw[List.range_succ_eq_map,List.all_cons,List.all_map]
 rfl
theorem z6l:∀(ds es:List Dt),(Dt.eqs (ds.take (min ds.length es.length)) (es.take (min ds.length es.length))&&ds.length==es.length)=Dt.eqs ds es
 |[],[]=>by simp[Dt.eqs]
 |[],_::_=>by simp[Dt.eqs]
 |_::_,[]=>by simp[Dt.eqs]
 |d::ds,e::es=>by
  have m:min (d::ds).length (e::es).length =min ds.length es.length+1:=by simp only[q0F];lia
  rw[m,List.take_succ_cons,List.take_succ_cons]
  have ih:=z6l ds es
  have l:((d::ds).length ==(e::es).length)=(ds.length==es.length):=by simp
  rw[l]
  simp only[Dt.eqs,Bool.and_assoc,ih]
mutual
theorem y2o (I:Inv X pins σ H s):∀{v:V}{d e:Dt},IsD X.K H v d→IsD X.K H v e→d=e
 |_,_,_,.i _,.i _=>rfl
 |_,_,_,.t q1 d1,.t q2 d2=>by
  have e1:=I.tuple_inj q1 q2
  subst e1
  rw[z6n I d1 d2]
 |_,_,_,.l q1 d1,.l q2 d2=>by
  have e1:=I.list_inj q1 q2
  subst e1
  rw[z6n I d1 d2]
 |_,_,_,.t q1 _,.l q2 _=>by
  obtain⟨_,_,⟨o,h1,h2,_⟩,_⟩:=I.tuple q1
  obtain⟨_,_,p,_⟩:=I.list q2
  obtain⟨o',h1',h2',_⟩:=p.isList
  rw[h1] at h1';cases h1'
  rw[h2] at h2'
  exact absurd (Value.type.inj h2') (by decide)
 |_,_,_,.l q2 _,.t q1 _=>by
  obtain⟨_,_,⟨o,h1,h2,_⟩,_⟩:=I.tuple q1
  obtain⟨_,_,p,_⟩:=I.list q2
  obtain⟨o',h1',h2',_⟩:=p.isList
  rw[h1] at h1';cases h1'
  rw[h2] at h2'
  exact absurd (Value.type.inj h2') (by decide)
theorem z6n (I:Inv X pins σ H s):∀{xs:List V}{ds es:List Dt},IsDs X.K H xs ds→IsDs X.K H xs es→ds=es
 |_,_,_,.nil,.nil =>rfl
 |_,_,_,.cons h1 r1,.cons h2 r2=>by rw[y2o I h1 h2,z6n I r1 r2]
end
def Told (X:Cx) (H:Hp) (s:Shared) (n:Nat) (A:Around):Prop:=∀(v u:V) (d e:Dt) (x y:Value),IsD X.K H v d→IsD X.K H u e→RelV v x→RelV u y→Dt.ok n d e=true→SeqAt.EqAt A s x y (Dt.eqb d e)
theorem y2d {n:Nat}{A:Around} (P:Told X H s n A):∀{xs ys:List V}{ds es:List Dt}{its its2:List Value},IsDs X.K H xs ds→IsDs X.K H ys es→Vals xs its→Vals ys its2→Dt.oks n ds es=true→
 ∃e:Nat→Bool,(∀j (h1:j<its.length) (h2:j<its2.length),SeqAt.EqAt A s its[j] its2[j] (e j))∧(List.range (min its.length its2.length)).all e=(Dt.eqs (ds.take (min ds.length es.length)) (es.take (min ds.length es.length)))
 :=by
 intro xs
 induction xs with
 |nil=>
  intro ys ds es its its2 h1 _ v1 _ _
  cases h1
  cases v1
  exact⟨fun _=>true,fun j h1 _=>absurd h1 (Nat.not_lt_zero _),by simp[Dt.eqs]⟩
 |cons a xs ih=>
  intro ys ds es its its2 h1 h2 v1 v2 ok
  cases h1 with
  | @cons _ d _ ds h1 r1=>
  cases v1 with
  | @cons _ x _ its v1 w1=>
  cases h2 with
  |nil=>
   cases v2
   exact⟨fun _=>true,fun j _ h2=>absurd h2 (Nat.not_lt_zero _),by simp[Dt.eqs]⟩
  | @cons _ e' _ es h2 r2=>
  cases v2 with
  | @cons _ y _ its2 v2 w2=>
  have ok':Dt.ok n d e'=true∧Dt.oks n ds es=true:=by simpa[Dt.oks] using ok
  have hd:=P _ _ d e' x y h1 h2 v1 v2 ok'.1
  obtain⟨e,he,hall⟩:=ih r1 r2 w1 w2 ok'.2
  refine⟨fun j=>Nat.casesOn j (Dt.eqb d e') e,fun j h1 h2=>?_,?_⟩
  ·cases j with
   |zero=>exact hd
   |succ j=>exact he j (by simpa using h1) (by simpa using h2)
  ·have m1:min (x::its).length (y::its2).length =min its.length its2.length+1:=by simp only[q0F];lia
   have m2:min (d::ds).length (e'::es).length =min ds.length es.length+1:=by simp only[q0F];lia
   rw[m1,m2,z4V,List.take_succ_cons,List.take_succ_cons]
   show (Dt.eqb d e'&&(List.range (min its.length its2.length)).all e)=(Dt.eqb d e'&&Dt.eqs _ _)
   rw[hall]
theorem y2V {ds es:List Dt} (hl:ds.length=es.length):Dt.eqs (ds.take (min ds.length es.length)) (es.take (min ds.length es.length))=Dt.eqs ds es:=by
 have e5:=z6l ds es
 have z:(ds.length==es.length)=true:=by simpa using hl
 rw[z,Bool.and_true] at e5
 exact e5
theorem y1d (I:Inv X pins σ H s) {n:Nat}{A:Around} (P:Told X H s n A.in1) (hu:A.units<cLine) {a b:Addr}{d e:Dt} (hv:IsD X.K H (.ref a) d) (hw:IsD X.K H (.ref b) e) (ok:Dt.ok (n+1) d e=true):
 SeqAt.RcAt A s (.ref a) (.ref b) (Dt.eqb d e)∧SeqAt.RcNeAt A s (.ref a) (.ref b) (!Dt.eqb d e):=by
 cases hv with
 |t q1 d1=>
  cases hw with
  |l _ _=>simp[Dt.ok] at ok
  |t q2 d2=>
   rename_i xs ds ys es
   obtain⟨its,rv,p,hz⟩:=I.tuple q1
   obtain⟨its2,rv2,p2,hz2⟩:=I.tuple q2
   have ok':Dt.oks n ds es=true:=by simpa[Dt.ok] using ok
   obtain⟨f,hf,hall⟩:=y2d P d1 d2 rv rv2 ok'
   have t1:=SeqAt.RcAt.tuples (A:=A) (s:=s) (e:=f) (show s.heap.IsTuple a its.toArray from p) (show s.heap.IsTuple b its2.toArray from p2) hu (fun j h1 h2=>by simpa using hf j (by simpa using h1) (by simpa using h2))
   have t2:=SeqAt.RcNeAt.tuples (A:=A) (s:=s) (e:=f) (show s.heap.IsTuple a its.toArray from p) (show s.heap.IsTuple b its2.toArray from p2) hu (fun j h1 h2=>by simpa using hf j (by simpa using h1) (by simpa using h2))
   rw[q0e,q0e,hall,←rv.length,←rv2.length,d1.length,d2.length,z6l ds es] at t1 t2
   exact⟨t1,t2⟩
 |l q1 d1=>
  cases hw with
  |t _ _=>simp[Dt.ok] at ok
  |l q2 d2=>
   rename_i xs ds ys es
   obtain⟨its,rv,p,hz⟩:=I.list q1
   obtain⟨its2,rv2,p2,hz2⟩:=I.list q2
   have ok':Dt.oks n ds es=true:=by simpa[Dt.ok] using ok
   have l1:its.length=ds.length:=by rw[←rv.length,d1.length]
   have l2:its2.length=es.length:=by rw[←rv2.length,d2.length]
   by_cases hl:ds.length=es.length
   ·obtain⟨f,hf,hall⟩:=y2d P d1 d2 rv rv2 ok'
    have sz:its.toArray.size=its2.toArray.size:=by rw[q0e,q0e];lia
    have t1:=SeqAt.RcAt.lists (A:=A) (s:=s) (e:=f) p.isList p2.isList sz hu (fun j h1 h2=>by simpa using hf j (by simpa using h1) (by simpa using h2))
    have t2:=SeqAt.RcNeAt.lists (A:=A) (s:=s) (e:=f) p.isList p2.isList sz hu (fun j h1 h2=>by simpa using hf j (by simpa using h1) (by simpa using h2))
    have hm:min its.length its2.length=its.length:=by lia
    rw[hm] at hall
    rw[q0e,hall,y2V hl] at t1 t2
    exact⟨t1,t2⟩
   ·have e5:Dt.eqs ds es=false:=by
     have e5:=z6l ds es
     have z:(ds.length==es.length)=false:=by simpa using hl
     rw[z,Bool.and_false] at e5
     exact e5.symm
    have sz:(its.toArray.size != its2.toArray.size)=true:=by rw[q0e,q0e,l1,l2];simpa using hl
    show SeqAt.RcAt A s _ _ (Dt.eqs ds es)∧SeqAt.RcNeAt A s _ _ (!Dt.eqs ds es)
    rw[e5]
    exact⟨SeqAt.RcAt.lists_lengths p.isList p2.isList sz hu,SeqAt.RcNeAt.lists_lengths p.isList p2.isList sz hu⟩
theorem told (I:Inv X pins σ H s):∀(n:Nat) (A:Around),A.units+n<cLine→Told X H s n A:=by
 intro n
 induction n with
 |zero=>
  intro A hu v u d e x y hv hw r1 r2 ok
  cases hv with
  |i k=>
   cases hw with
   |i m=>
    obtain⟨t,rfl⟩:=r1
    obtain⟨t',rfl⟩:=r2
    exact SeqAt.EqAt.int_int k t m t'
   |t _ _=>simp[Dt.ok] at ok
   |l _ _=>simp[Dt.ok] at ok
  |t _ _=>cases hw<;>simp[Dt.ok] at ok
  |l _ _=>cases hw<;>simp[Dt.ok] at ok
 |succ n ih=>
  intro A hu v u d e x y hv hw r1 r2 ok
  have P:=ih A.in1 (by show A.units+1+n<cLine;lia)
  have refs:∀{a b:Addr},v= .ref a→u= .ref b→SeqAt.EqAt A s x y (Dt.eqb d e):=fun {a b} ev eu=>by
   subst ev eu
   cases (show x=Value.ref a from r1)
   cases (show y=Value.ref b from r2)
   by_cases hab:a=b
   ·subst hab
    rw[(Dt.eqb_iff d e).mpr (y2o I hv hw)]
    exact SeqAt.EqAt.same _
   ·exact SeqAt.EqAt.of_refs hab (y1d I P (by lia) hv hw ok).1
  cases hv with
  |i k=>
   cases hw with
   |i m=>
    obtain⟨t,rfl⟩:=r1
    obtain⟨t',rfl⟩:=r2
    exact SeqAt.EqAt.int_int k t m t'
   |t _ _=>simp[Dt.ok] at ok
   |l _ _=>simp[Dt.ok] at ok
  |t _ _=>
   cases hw with
   |i m=>simp[Dt.ok] at ok
   |t _ _=>exact refs rfl rfl
   |l _ _=>simp[Dt.ok] at ok
  |l _ _=>
   cases hw with
   |i m=>simp[Dt.ok] at ok
   |t _ _=>simp[Dt.ok] at ok
   |l _ _=>exact refs rfl rfl
end
section
variable {X:Cx}
def rEqD (K:PySem.W.Frag):R2:=fun x y H Q=>∃(a b:Addr) (d e:Dt),x= .ref a∧y= .ref b∧IsD K H x d∧IsD K H y e∧Dt.ok 9 d e=true∧Q (.bl (Dt.eqb d e)) H
def rNeD (K:PySem.W.Frag):R2:=fun x y H Q=>∃(a b:Addr) (d e:Dt),x= .ref a∧y= .ref b∧IsD K H x d∧IsD K H y e∧Dt.ok 9 d e=true∧Q (.bl (!Dt.eqb d e)) H
theorem y6z (hu:X.A.units+64<cLine):OpR X (compareOp .Eq) (rEqD X.K):=by
 intro pins s σ H x y v u Q I r1 r2 h
 obtain⟨a,b,d,e,rfl,rfl,h1,h2,ok,q⟩:=h
 cases (show v=Value.ref a from r1)
 cases (show u=Value.ref b from r2)
 exact (y1d I (told I 8 X.A.in1 (by show X.A.units+1+8<cLine;lia)) (by lia) h1 h2 ok).1 _ _ _ _ ⟨.bl _,H,I,rfl,q⟩
theorem y6w (hu:X.A.units+64<cLine):OpR X (compareOp .NotEq) (rNeD X.K):=by
 intro pins s σ H x y v u Q I r1 r2 h
 obtain⟨a,b,d,e,rfl,rfl,h1,h2,ok,q⟩:=h
 cases (show v=Value.ref a from r1)
 cases (show u=Value.ref b from r2)
 exact (y1d I (told I 8 X.A.in1 (by show X.A.units+1+8<cLine;lia)) (by lia) h1 h2 ok).2 _ _ _ _ ⟨.bl _,H,I,rfl,q⟩
theorem z3O {K:PySem.W.Frag}{H:Hp}:∀ns:List Int,IsDs K H (ns.map V.int) (ns.map Dt.i)
 |[]=> .nil
 |n::r=> .cons (.i n) (z3O r)
theorem z3f (n:Nat):∀a b:List Int,Dt.oks n (a.map Dt.i) (b.map Dt.i)=true
 |[],_=>by simp[Dt.oks]
 |_::_,[]=>by simp[Dt.oks]
 |x::a,y::b=>by
  have:=z3f n a b
  simp only[q0u,Dt.oks,this,Bool.and_true]
  cases n<;>rfl
theorem z9c:∀a b:List Int,Dt.eqs (a.map Dt.i) (b.map Dt.i)=decide (a=b)
 |[],[]=>by simp[Dt.eqs]
 |[],_::_=>by simp[Dt.eqs]
 |_::_,[]=>by simp[Dt.eqs]
 |x::a,y::b=>by
  have ih:=z9c a b
  simp only[q0u,Dt.eqs,Dt.eqb,ih]
  by_cases h1:x=y<;>by_cases h2:a=b<;>simp[h1,h2]
end
end L2
set_option maxHeartbeats 1000000
namespace L2
open PySem PySem.Spec PyProof.Rows
def z2q (X:Cx) (Nc:List Str) (scope:Scope) (cl:List (Str×Addr)) (C:Addr) (s2:Shared) (H2:Hp) (fp:List Addr):Cx where
 prog:=X.prog
 w:=X.w
 K:=X.K
 mg:=X.mg
 base:=X.base
 A:=X.A
 N:=Nc
 s₀:=s2
 H₀:=H2
 env:=compEnvC scope cl C X.env
 outer:=X.stack
 stack:=X.stack
 ex:=fp
 fn:=fun _=>false
 calm:=true
 pn:=[]
 xe:=fun _ _=>False
def CapC (env:Env):List (Str×Addr)→Prop
 |[]=>True
 |(x,c)::r=>env.cells.lookup x=some c∧CapC env r
def CapN (X:Cx) (scope:Scope) (cl:List (Str×Addr)):List Str→List (Option Nat)→Prop
 |[],[]=>True
 |_::r,none::q=>CapN X scope cl r q
 |x::r,some k::q=>(X.N[k]? =some x∧X.env.kindOf x=some .cell ∧(cl.lookup x).isSome =true∧(relabel scope X.env).names.lookup x=some .cell)∧CapN X scope cl r q
 |_,_=>False
def z0H (fr:List (Option Nat)) (σ:St):St:=fr.map fun o=>o.bind fun k=>(σ[k]?).join
theorem CapC.mem {env:Env}:∀{cl:List (Str×Addr)},CapC env cl→∀x c,cl.lookup x=some c→env.cells.lookup x=some c
 |[],_,x,c,e=>by simp at e
 |(y,d)::r,h,x,c,e=>by
  rw[List.lookup_cons] at e
  split at e
  ·rename_i hb
   have:x=y:=by simpa using hb
   subst this
   cases e
   exact h.1
  ·exact h.2.mem x c e
theorem CapN.length {X:Cx}{scope:Scope}{cl:List (Str×Addr)}:∀{Nc:List Str}{fr:List (Option Nat)},CapN X scope cl Nc fr→fr.length=Nc.length
 |[],[],_=>rfl
 |_::r,none::q,h=>by rw[List.length_cons,List.length_cons,CapN.length (show CapN X scope cl r q from h)]
 |_::r,some k::q,h=>by rw[List.length_cons,List.length_cons,CapN.length h.2]
 |[],_::_,h=>h.elim
 |_::_,[],h=>h.elim
theorem CapN.at {X:Cx}{scope:Scope}{cl:List (Str×Addr)}:∀{Nc:List Str}{fr:List (Option Nat)},CapN X scope cl Nc fr→∀(j:Nat) (x:Str) (k:Nat),Nc[j]? =some x→fr[j]? =some (some k)→
 X.N[k]? =some x∧X.env.kindOf x=some .cell ∧(cl.lookup x).isSome =true∧(relabel scope X.env).names.lookup x=some .cell
 |[],[],_,j,x,k,e,_=>by simp at e
 |_::r,none::q,h,0,x,k,_,e=>by simp at e
 |y::r,some k'::q,h,0,x,k,e1,e2=>by
  simp at e1 e2
  subst e1 e2
  exact h.1
 |_::r,none::q,h,j+1,x,k,e1,e2=>CapN.at (show CapN X scope cl r q from h) j x k (by simpa using e1) (by simpa using e2)
 |_::r,some k'::q,h,j+1,x,k,e1,e2=>CapN.at h.2 j x k (by simpa using e1) (by simpa using e2)
 |[],_::_,h,_,_,_,_,_=>h.elim
 |_::_,[],h,_,_,_,_,_=>h.elim
theorem z2M {scope:Scope}{env:Env}{cl:List (Str×Addr)} (hcell:∀y∈scope.names,y.2≠ .cell) (hall:(scope.names.all fun p=>p.2 != .free || (cl.lookup p.1).isSome)=true):
 ∀x,((relabel scope env).names.lookup x=some .cell ∨(relabel scope env).names.lookup x=some .free)→∃c,cl.lookup x=some c:=by
 intro x hx
 unfold relabel at hx
 dsimp only at hx
 revert hcell hall hx
 generalize scope.names=ns
 intro hcell hall hx
 induction ns with
 |nil=>simp at hx
 |cons p r ih=>
  obtain⟨n,k⟩:=p
  have hk:k≠ .cell :=hcell (n,k) q0k
  simp only[List.all_cons,q1l] at hall
  rw[q0u] at hx
  by_cases hxn:x=n
  ·subst hxn
   have kf:k= .free :=by
        by_cases hc:(k==NameKind.free&&env.scope.kind== .function &&env.kindOf x==some .cell)=true
        ·simp only[q1l,beq_iff_eq] at hc
         exact hc.1.1
        ·dsimp only at hx
         rw[if_neg hc] at hx
         simp only[List.lookup_cons,beq_self_eq_true] at hx
         rcases hx with z|z
         ·exact absurd (Option.some.inj z) hk
         ·exact Option.some.inj z
   have h1:=hall.1
   rw[kf] at h1
   have h2:(cl.lookup x).isSome =true:=by simpa using h1
   exact Option.isSome_iff_exists.mp h2
  ·refine ih (fun y hy=>hcell y (q0f _ hy)) hall.2 ?_
   have hb:(x==n)=false:=by simpa using hxn
   dsimp only at hx
   by_cases hc:(k==NameKind.free&&env.scope.kind== .function &&env.kindOf n==some .cell)=true
   ·rw[if_pos hc] at hx
    simpa only[List.lookup_cons,hb] using hx
   ·rw[if_neg hc] at hx
    simpa only[List.lookup_cons,hb] using hx
def PTs (X:Cx) (ifs:List Expr) (t:TT):Prop:=
 ∀(pins:List (Addr×Obj)) (s:Shared) (σ:St) (H:Hp) (Q:Bool→Hp→Prop),Inv X pins σ H s→t σ H Q→
  wpAny (model X.prog X.w) X.A (forIn ifs true fun c r=>if r=true then do let ok ←isTrue c X.env (eval c X.env);pure (ForInStep.yield ok) else pure (ForInStep.yield r)) (TP X pins σ Q) X.xe s
theorem z0K {X:Cx}:PTs X [] (fun _ H Q=>Q true H):=fun _ _ _ H _ I h=>wpAny_tests_nil ⟨H,I,h⟩
theorem z3t {X:Cx}{c:Expr}{t:TT} (h:PT X c t):PTs X [c] t:=fun pins s σ H Q I q=>wpAny_tests_one (h pins s σ H Q I q)
def z3E (J:It) (g:TG) (tt:TT) (te:TE) (Q:VK) (D:Addr) (σ0:St) (H0:Hp):Prop:=∃W:Nat→Nat→St→Hp→Prop,(∃m,W 0 m σ0 H0)∧∀i m σc Hc,W i m σc Hc→
 (J.stop i Hc∧Q (.ref D) Hc)∨(J.go i Hc∧∀x H',J.yld i Hc x H'→g x σc H' fun σ2 H2=>tt σ2 H2 fun b H3=>
    if b=true then te σ2 H3 fun v H4=>∃acc m',H4 D=some (.lst acc)∧acc.length<sizeLine∧m'<m∧W (i+1) m' σ2 (upd H4 D (.lst (acc++[v]))) else ∃m',m'<m∧W (i+1) m' σ2 H3)
def y5Z (fr:List (Option Nat)) (wi:TI) (g:TG) (tt:TT) (te:TE):TE:=fun σ H Q=>wi σ H fun J H1=>∀D,H1 D=none→z3E J g tt te Q D (z0H fr σ) (upd H1 D (.lst []))
section
variable {X:Cx}{tg iter elt:Expr}{ifs:List Expr}{scope:Scope}{pos:Pos}{cl:List (Str×Addr)}{Nc:List Str}{fr:List (Option Nat)}{wi:TI}{g:TG}{tt:TT}{te:TE}
theorem z0L (hc:X.calm=true) (hi:PI X tg iter wi) (hcl:closureFor scope X.env=pure cl) (hcell:∀y∈scope.names,y.2≠ .cell) (hk:scope.kind= .function) (hnm:∀y∈scope.names,y.2= .local →scope.names.lookup y.1=some .local)
 (hall:(scope.names.all fun p=>p.2 != .free || (cl.lookup p.1).isSome)=true) (cc:CapC X.env cl) (cn:CapN X scope cl Nc fr)
 (hg:∀C s2 H2 fp,PG (z2q X Nc scope cl C s2 H2 fp) tg g) (ht:∀C s2 H2 fp,PTs (z2q X Nc scope cl C s2 H2 fp) ifs tt) (he:∀C s2 H2 fp,PE (z2q X Nc scope cl C s2 H2 fp) elt te)
 (hs:∀x,foldedSetIterable iter X.env x=pure x:=by intro _;rfl):PE X (.ListComp elt [⟨tg,iter,ifs,0⟩] scope pos) (y5Z fr wi g tt te):=by
 intro pins s σ H Q I h
 rw[eval_ListComp]
 refine wpAny_comprehension_free (use:=none) rfl hs hcl hk hnm ?_
 refine wpAny_mono (hi pins s σ H _ I h) (fun xv s1 h1=>wpAny_mono h1 (fun itv s2 h2=>?_) fun _ _ e=>e) fun _ _ e=>e
 obtain⟨it,fp,tn,J,H2,rfl,I2,T,st2,f2,q2⟩:=h2
 obtain⟨W,⟨m0,w0⟩,turn⟩:=q2 s2.heap.objs.size (I2.hok.fresh (q0j _))
 refine wpAny_newObj_type (wpAny_newFunctionEnv hcell (by intro y hy;simp at hy) (fun h4 ns4 sb4=>?_) hk)
 dsimp only at ns4 sb4 ⊢
 generalize hD:s2.heap.objs.size=D at*
 generalize hL:s2.heap.push {cls:= .type "list",dict:=none,data:= .seq ([]:List Value).toArray}=hl at ns4 sb4 ⊢
 have hlsz:hl.objs.size=D+1:=by rw[←hL,q1u,hD]
 rw[hlsz] at ns4 sb4 ⊢
 have DC:D≠D+1:=q0w (Nat.lt_succ_self _)
 have low:∀b o,s2.heap.get? b=some o→b<D:=fun b o e=>by rw[←hD];exact q0q e
 have kp:∀b o,s2.heap.get? b=some o→h4.get? b=some o:=fun b o e=>by
  have z:=low b o e
  refine sb4.extBut b o (q0w (q1d z)) (q0d _ ?_)
  rw[←hL]
  exact q0d _ e
 have hD4:h4.get? D=some {cls:= .type "list",dict:=none,data:= .seq ([]:List Value).toArray}:=by
  refine sb4.extBut D _ DC (q0d _ ?_)
  rw[←hL,←hD]
  exact q0s _ rfl
 have hn:H2 D=none:=by rw[←hD];exact I2.hok.fresh (q0j _)
 have hnC:H2 (D+1)=none:=I2.hok.fresh (by rw[hD];exact q1v _)
 let Y:=z2q X Nc scope cl (D+1) s2 H2 fp
 have ixv:∀b∈fp,b<D:=fun b hb=>by
  obtain⟨o,e,_⟩:=T.obj 0 _ st2 b hb
  exact low b o e
 have okY:Y.Ok:=by
  refine⟨I2.ok.mod,?_,I2.ok.glob,I2.ok.blt,?_,?_,?_,?_,fun _=>I2.ok.hd hc,I2.ok.frames,.inl rfl,?_,I2.bs,?_,?_,?_,I2.stack,I2.stkFree⟩
  ·exact hk
  ·show s2.heap.objs.size≤D+1
   lia
  ·intro x y c e1 e2
   exact I2.ok.inj x y c (cc.mem x c e1) (cc.mem y c e2)
  ·intro x hx
   exact z2M hcell hall x hx
  ·intro x c e
   cases e
  ·intro b hb
   refine⟨fun z=>?_,fun x c e z=>?_⟩
   ·exact absurd z (q0w (q1d (ixv b hb)))
   ·exact (f2 b hb).2.2.2.2.1 x c (cc.mem x c e) z
  ·exact q0p I2.ok.bsz I2.sz
  ·intro b o e hb
   have z:=(f2 b hb).2.2.2.1
   rcases z with z|z
   ·exact I2.ok.noex b o e z
   ·exact absurd (q0N (q0q (I2.ok.bs b o e).1) z) (Nat.lt_irrefl _)
  ·intro b hb z
   have e2:=q0r.mp (I2.stkSub b z)
   rcases e2 with e2|e2
   ·exact (f2 b hb).2.1 e2
   ·exact (f2 b hb).2.2.1 e2
 have IY:Inv Y [] (z0H fr σ) (upd H2 D (.lst [])) {s2 with heap:=h4,toks:=s2.toks+([]:List (Str×Value)).length}:=by
  refine⟨okY,rfl,I2.bare,⟨fun b o e n _ _=>kp b o e,fun b o e n _ _=>⟨o.slots,kp b o e⟩,fun b o e n _=>?_,fun b o e _=>⟨o,kp b o e⟩,fun b xs e=>?_,fun b o u e=>?_,fun b ps e=>⟨#[],?_⟩⟩,?_,fun x c e=>?_,?_,fun x c e=>?_,fun p hp=>?_,fun b u e=>?_,?_⟩
  ·rw[z0l (q0w (low b o e))];exact n
  ·rw[z0l (z0h e hn)];exact e
  ·rw[z0l (z0h e hn)];exact e
  ·rw[z0l (z0h e hn),show H2 b=_ from e];simp
  ·refine⟨_,ns4,fun j x v e1 e2 e3=>?_⟩
   have e2':(fr.map fun o=>o.bind fun k=>(σ[k]?).join)[j]? =some (some v):=e2
   rw[q0h] at e2'
   obtain⟨o,ho,hv⟩:=q0v.mp e2'
   cases o with
   |none=>cases hv
   |some k=>
    obtain⟨c1,c2,c3,c4⟩:=cn.at j x k e1 ho
    have hσ:σ[k]? =some (some v):=by
        have hv':(σ[k]?).join =some v:=hv
        cases z:σ[k]? with
        |none=>rw[z] at hv';cases hv'
        |some w'=>rw[z] at hv';exact congrArg some hv'
    obtain⟨m,hm,hlk⟩:=I2.loc
    obtain⟨u,r,lk⟩:=hlk k x v c1 hσ (.inr (.inl c2))
    refine⟨u,r,.inr ⟨.inl c4,?_⟩⟩
    rcases lk with⟨z,_⟩|⟨_,c,ec,oc,hoc,dc⟩
    ·rw[c2] at z;cases z
    ·obtain⟨c',ec'⟩:=Option.isSome_iff_exists.mp c3
     have:=cc.mem x c' ec'
     rw[ec] at this;cases this
     exact⟨c,ec',oc,kp c oc hoc,dc⟩
  ·obtain⟨v,oc,hoc,dc⟩:=I2.cell x c (cc.mem x c e)
   exact⟨v,oc,kp c oc hoc,dc⟩
  ·show upd H2 D (.lst []) (D+1)=none
   rw[z0l (Ne.symm DC)];exact hnC
  ·obtain⟨v,oc,hoc,dc⟩:=I2.cell x c (cc.mem x c e)
   rw[z0l (q0w (low c oc hoc))]
   exact I2.freeC x c (cc.mem x c e)
  ·simp[Y,z2q] at hp
  ·by_cases hb:b=D
   ·subst hb
    rw[z0d] at e;cases e
    exact⟨q0S _,[],_,.nil,hD4⟩
   ·rw[z0l hb] at e
    exact (I2.hok b u e).stay (fun c v _ q=>kp c v q) (fun c q=>by rw[z0l (z0h q hn)];exact q) fun c xs q=>by rw[z0l (z0h q hn)];exact q
  ·show (fr.map _).length =Nc.length
   rw[q0a];exact cn.length
 have fY:∀{H':Hp},(∀b∈fp,H' b=none)→∀b∈fp,y2C Y [] H' b:=fun {H'} hn' b hb=>by
  refine⟨hn' b hb,fun z=>?_,fun z=>?_,.inl hb,fun x c e z=>?_,fun p hp=>?_⟩
  ·exact absurd z (q0w (q1d (ixv b hb)))
  ·exact okY.exfs b hb z
  ·exact (f2 b hb).2.2.2.2.1 x c (cc.mem x c e) z
  ·simp[Y,z2q] at hp
 have st4:tn 0 h4:=T.keep _ _ _ st2 fun b hb o e=>kp b o e
 have fr4:∀b∈fp,upd H2 D (.lst []) b=none:=fun b hb=>by
  rw[z0l (q0w (ixv b hb))]
  exact (f2 b hb).1
 have loop:∀s3:Shared,s3={s2 with heap:=h4,toks:=s2.toks+([]:List (Str×Value)).length}→
  codeAny (model X.prog X.w) X.A (.compLoop (.ListComp elt [⟨tg,iter,ifs,0⟩] scope pos) 0 (.ref it) (.ref D) (compEnvC scope cl (D+1) X.env)) (compPost (model X.prog X.w) X.A X.xe none (EP X pins σ Q) (.ref D) (D+1)) s3:=by
  rintro s3 rfl
  refine codeAny_loop rfl (fun n s'=>∃i σ' H',Inv Y [] σ' H' s'∧tn i s'.heap∧(∀b∈fp,H' b=none)∧W i n σ' H') (fun n s5 hI=>?_) m0 ⟨0,_,_,IY,st4,fr4,w0⟩
  obtain⟨i,σ5,H5,I5,st5,fr5,w5⟩:=hI
  show wpAny _ X.A ((compTurn (.ListComp elt [⟨tg,iter,ifs,0⟩] scope pos) 0 (.ref it) (.ref D) (compEnvC scope cl (D+1) X.env)).onRaise (fun x=>do noteFrame x (compEnvC scope cl (D+1) X.env);theTreesLotGoes x)) _ _ s5
  refine wpAny_noted ?_
  rw[compTurn_list]
  refine wpAny_bind (wpAny_standAt (wpAny_bind ?_))
  rcases turn i n σ5 H5 w5 with⟨stop,qn⟩|⟨go,step⟩
  ·refine wpAny_mono (T.done Y rfl rfl rfl rfl i [] s5 σ5 H5 (fun _ _=>False) I5 (fY fr5) st5 stop) (fun r s6 ⟨hr,I6⟩=>?_) fun _ _ z=>z.elim
   subst hr
   refine wpAny_pure ?_
   obtain⟨m6,hm6,_⟩:=id I6.loc
   refine⟨m6,hm6,fun h7 sb7=>?_⟩
   have un:Un (frs X.stack) fp H2 H5 s2.heap h7:=by
        have b6:=I6.base
        have nc:∀b o,s2.heap.get? b=some o→b≠D+1:=fun b o e=>q0w (q1d (low b o e))
        refine⟨fun b o e n1 n2 n3=>(sb7.2 b (nc b o e)).trans (b6.keep b o e n1 n2 n3),fun b o e n1 n2 n3=>?_,b6.free,fun b o e n3=>?_,b6.tups,b6.frzs,b6.tbls⟩
        ·obtain⟨sl,z⟩:=b6.slot b o e n1 n2 n3
         exact⟨sl,(sb7.2 b (nc b o e)).trans z⟩
        ·obtain⟨o',z⟩:=b6.there b o e n3
         exact⟨o',(sb7.2 b (nc b o e)).trans z⟩
   have hok7:HOk X.prog X.w H5 h7:=fun b u e=>by
        refine (I6.hok b u e).stay (fun c v hc' q=>(sb7.2 c fun z=>?_).trans q) (fun _ q=>q) fun _ _ q=>q
        have fC:H5 (D+1)=none:=I6.free
        subst z
        rcases hc' with z|z
        ·rw[←z,fC] at e;cases e
        ·rw[fC] at z;cases z
   have IX:=I2.call' (s':={s6 with heap:=h7}) (ch:=fp) I6.os un hok7 I6.bare fun b hb=>⟨(f2 b hb).2.2.2.1,(f2 b hb).2.1,(f2 b hb).2.2.2.2.1,(f2 b hb).2.2.2.2.2⟩
   exact⟨.ref D,H5,IX,rfl,qn⟩
  ·refine wpAny_mono (T.item Y rfl rfl rfl rfl i [] s5 σ5 H5 (fun _ _=>False) I5 (fY fr5) st5 go) (fun r s6 ⟨u,hr,h6⟩=>?_) fun _ _ z=>z.elim
   subst hr
   refine wpAny_bind (wpAny_mono h6 (fun _ s7 ⟨x,H7,I7,r7,y7,st7,fr7⟩=>?_) fun _ _ z=>z.elim)
   have I7':=I7.pinned (fY fr7) (T.obj _ _ st7)
   refine wpAny_bind (wpAny_mono (hg _ _ _ _ _ s7 σ5 H7 x u _ I7' r7 (step x H7 y7)) (fun _ s8 ⟨σ8,H8,I8,q8⟩=>?_) fun _ _ z=>z.elim)
   have again:∀{σ':St}{H':Hp}{s':Shared}{k:Nat},Inv Y ([]++z5f fp s7.heap) σ' H' s'→W (i+1) k σ' H'→∃i' σ'' H'',Inv Y [] σ'' H'' s'∧tn i' s'.heap∧(∀b∈fp,H'' b=none)∧W i' k σ'' H'':=fun {σ' H' s' k} I' w'=>by
        refine⟨i+1,σ',H',I'.unpinned,T.keep _ _ _ st7 fun b hb o e=>(I'.pin (b,o) (q0O _ (q0O _ (z1H hb e)))).1,fun b hb=>?_,w'⟩
        obtain⟨o,e,d⟩:=T.obj _ _ st7 b hb
        exact (I'.pin (b,o) (q0O _ (q0O _ (z1H hb e)))).2.1
   refine wpAny_bind (wpAny_mono (ht _ _ _ _ _ s8 σ8 H8 _ I8 q8) (fun ok s9 ⟨H9,I9,q9⟩=>?_) fun _ _ z=>z.elim)
   cases ok with
   |false=>
    obtain⟨m',hm',w'⟩:=q9
    exact wpAny_pure ⟨rfl,m',hm',again I9 w'⟩
   |true=>
    refine wpAny_bind (wpAny_bind (wpAny_mono (he _ _ _ _ _ s9 σ8 H9 _ I9 q9) (fun ev s10 ⟨v,H10,I10,r10,acc,m',hacc,hlen,hm',w'⟩=>?_) fun _ _ z=>z.elim))
    refine wpAny_bind (wpAny_mono (z1j (X:=Y) _ s10 σ8 H10 (.ref D) [v] (.ref D) [ev] (fun r H'=>r= .non ∧H'=upd H10 D (.lst (acc++[v]))) I10 rfl (.cons r10 .nil) ⟨D,acc,v,rfl,rfl,hacc,hlen,rfl,rfl⟩) (fun _ s11 ⟨_,H11,I11,_,_,e11⟩=>?_) fun _ _ z=>z.elim)
    subst e11
    exact wpAny_pure (wpAny_pure ⟨rfl,m',hm',again I11 w'⟩)
 exact codeAny_compStart_list (loop _ rfl) (T.self _ _ _ _ _ st4 (loop _ rfl))
end
end L2
namespace L2
open PySem PySem.Spec PyProof.Rows
def SqA (K:PySem.W.Frag) (H:Hp) (a:Addr) (xs:List V):Prop:=SqL K H a xs∨SqT K H a xs
theorem SqA.same {K:PySem.W.Frag}{H H':Hp}{a:Addr}{xs:List V} (g:Same H H') (h:SqA K H a xs):SqA K H' a xs:=by
 rcases h with h|h
 ·exact .inl (h.same g)
 ·exact .inr (h.same g)
def trV:V→Bool
 | .int i=>i != 0
 | .bl b=>b
 |_=>false
def PlV:V→Prop
 | .int _=>True
 | .bl _=>True
 | .non =>True
 |_=>False
section
variable {X:Cx}
theorem y4u {xs:List V} (f:V→Bool):((List.range xs.length).any fun i=>((xs[i]?).map f).getD false)=xs.any f:=by
 rw[q1r,q1c,q1c]
 constructor
 ·rintro⟨i,hi,h⟩
  have hl:i<xs.length:=List.mem_range.mp hi
  refine⟨xs[i],q0A hl,?_⟩
  simpa[hl] using h
 ·rintro⟨x,hx,h⟩
  obtain⟨i,hl,e⟩:=q0I.mp hx
  exact⟨i,List.mem_range.mpr hl,by simp[hl,e,h]⟩
theorem y4v {xs:List V} (f:V→Bool):((List.range xs.length).all fun i=>((xs[i]?).map f).getD false)=xs.all f:=by
 rw[q1r,List.all_eq_true,List.all_eq_true]
 constructor
 ·intro h x hx
  obtain⟨i,hl,e⟩:=q0I.mp hx
  have:=h i (List.mem_range.mpr hl)
  simpa[hl,e] using this
 ·intro h i hi
  have hl:i<xs.length:=List.mem_range.mp hi
  simpa[hl] using h xs[i] (q0A hl)
theorem z1U {prog:Program}{w:World}{A:Around}{ys:List V}{its:List Value} (r:Vals ys its) (hp:∀y∈ys,PlV y):
 TruthOf prog w A (fun i v=>its.toArray[i]? =some v) (fun i=>((ys[i]?).map trV).getD false):=by
 intro i v s Q E hv q
 have hv':its[i]? =some v:=by simpa using hv
 have hi:i<ys.length:=by rw[r.length];exact (q0t.mp hv').1
 obtain⟨u,hu,ru⟩:=r.get (q0c hi)
 rw[hv'] at hu;cases hu
 have p:=hp _ (q0A hi)
 have q':Q (trV ys[i]) s:=by simpa[hi] using q
 generalize ys[i]=y at*
 cases y with
 |int k=>obtain⟨t,rfl⟩:=ru;exact PySem.P.truthy_int q'
 |bl b=>cases ru;exact wpAny_truthy_bool q'
 |non=>cases ru;exact truthy_none q'
 |_=>exact p.elim
theorem y3P (hc:X.calm=true):z2t X (.builtin "any") (fun xs H Q=>∃p ys,xs=[.ref p]∧SqA X.K H p ys∧(∀y∈ys,PlV y)∧Q (.bl (ys.any trV)) H):=by
 intro pins s σ H xs us Q I r h
 obtain⟨p,ys,rfl,hq,hp,q⟩:=h
 obtain⟨u,rfl,rx⟩:=z9n r
 cases rx
 have hh:X.A.in1.handled=none:=I.ok.hd hc
 refine call_any_walk ?_
 rcases hq with hq|hq
 ·obtain⟨its,r',pl,hz⟩:=I.list hq
  have hne:p≠s.heap.objs.size:=by obtain⟨o,e,_⟩:=pl.isList;exact q0w (q0q e)
  refine wpAny_pyIter_list pl.isList ⟨_,_,_,_,_,_,_,rfl,Walks.list hh _ p hne its.toArray,⟨⟨_,q0s _ rfl,rfl,rfl⟩,pl.isList.push _⟩,z1U r' hp,fun h' tk kp=>?_⟩
  have kp':∀b o,s.heap.get? b=some o→h'.get? b=some o:=fun b o e=>kp b o (by have:=q0q e;simp;exact q0w this) (q0d _ e)
  refine⟨.bl (ys.any trV),H,I.kept kp',?_,q⟩
  show Value.bool _=_
  rw[q0e,←r'.length,y4u]
 ·obtain⟨its,r',pl,hz⟩:=I.tuple hq
  have pl':s.heap.IsTuple p its.toArray:=pl
  have hne:p≠s.heap.objs.size:=by obtain⟨o,e,_⟩:=pl';exact q0w (q0q e)
  refine wpAny_pyIter_tuple pl' ⟨_,_,_,_,_,_,_,rfl,Walks.tuple hh _ p hne its.toArray,⟨⟨_,q0s _ rfl,rfl,rfl⟩,pl'.push _⟩,z1U r' hp,fun h' tk kp=>?_⟩
  have kp':∀b o,s.heap.get? b=some o→h'.get? b=some o:=fun b o e=>kp b o (by have:=q0q e;simp;exact q0w this) (q0d _ e)
  refine⟨.bl (ys.any trV),H,I.kept kp',?_,q⟩
  show Value.bool _=_
  rw[q0e,←r'.length,y4u]
theorem y3Q (hc:X.calm=true):z2t X (.builtin "all") (fun xs H Q=>∃p ys,xs=[.ref p]∧SqA X.K H p ys∧(∀y∈ys,PlV y)∧Q (.bl (ys.all trV)) H):=by
 intro pins s σ H xs us Q I r h
 obtain⟨p,ys,rfl,hq,hp,q⟩:=h
 obtain⟨u,rfl,rx⟩:=z9n r
 cases rx
 have hh:X.A.in1.handled=none:=I.ok.hd hc
 refine call_all_walk ?_
 rcases hq with hq|hq
 ·obtain⟨its,r',pl,hz⟩:=I.list hq
  have hne:p≠s.heap.objs.size:=by obtain⟨o,e,_⟩:=pl.isList;exact q0w (q0q e)
  refine wpAny_pyIter_list pl.isList ⟨_,_,_,_,_,_,_,rfl,Walks.list hh _ p hne its.toArray,⟨⟨_,q0s _ rfl,rfl,rfl⟩,pl.isList.push _⟩,z1U r' hp,fun h' tk kp=>?_⟩
  have kp':∀b o,s.heap.get? b=some o→h'.get? b=some o:=fun b o e=>kp b o (by have:=q0q e;simp;exact q0w this) (q0d _ e)
  refine⟨.bl (ys.all trV),H,I.kept kp',?_,q⟩
  show Value.bool _=_
  rw[q0e,←r'.length,y4v]
 ·obtain⟨its,r',pl,hz⟩:=I.tuple hq
  have pl':s.heap.IsTuple p its.toArray:=pl
  have hne:p≠s.heap.objs.size:=by obtain⟨o,e,_⟩:=pl';exact q0w (q0q e)
  refine wpAny_pyIter_tuple pl' ⟨_,_,_,_,_,_,_,rfl,Walks.tuple hh _ p hne its.toArray,⟨⟨_,q0s _ rfl,rfl,rfl⟩,pl'.push _⟩,z1U r' hp,fun h' tk kp=>?_⟩
  have kp':∀b o,s.heap.get? b=some o→h'.get? b=some o:=fun b o e=>kp b o (by have:=q0q e;simp;exact q0w this) (q0d _ e)
  refine⟨.bl (ys.all trV),H,I.kept kp',?_,q⟩
  show Value.bool _=_
  rw[q0e,←r'.length,y4v]
end
def SIt (b:Bool) (h:Heap) (it a:Addr) (k:Nat):Prop:=match b with
 |true=>h.IsListIter it a k
 |false=>h.IsTupleIter it a k
def SAt (b:Bool) (h:Heap) (a:Addr) (its:Array Value):Prop:=match b with
 |true=>h.IsList a its
 |false=>h.IsTuple a its
theorem SIt.ob {b:Bool}{h:Heap}{it a:Addr}{k:Nat} (x:SIt b h it a k):∃o n,h.get? it=some o∧o.cls= .type n∧(n="list_iterator"∨n="tuple_iterator")∧o.data= .fields #[.ref a,.int k 0]:=by
 cases b with
 |true=>obtain⟨o,e,c,d⟩:=x;exact⟨o,_,e,c,.inl rfl,d⟩
 |false=>obtain⟨o,e,c,d⟩:=x;exact⟨o,_,e,c,.inr rfl,d⟩
theorem SAt.ob {b:Bool}{h:Heap}{a:Addr}{its:Array Value} (x:SAt b h a its):∃o n,h.get? a=some o∧o.cls= .type n∧(n="list"∨n="tuple"):=by
 cases b with
 |true=>obtain⟨o,e,c,_⟩:=x;exact⟨o,_,e,c,.inl rfl⟩
 |false=>obtain⟨o,e,c,_⟩:=x;exact⟨o,_,e,c,.inr rfl⟩
theorem SIt.keep {b:Bool}{h h':Heap}{it a:Addr}{k:Nat} (x:SIt b h it a k) (f:∀o,h.get? it=some o→h'.get? it=some o):SIt b h' it a k:=by
 cases b with
 |true=>obtain⟨o,e,r⟩:=x;exact⟨o,f o e,r⟩
 |false=>obtain⟨o,e,r⟩:=x;exact⟨o,f o e,r⟩
theorem SAt.keep {b:Bool}{h h':Heap}{a:Addr}{its:Array Value} (x:SAt b h a its) (f:∀o,h.get? a=some o→h'.get? a=some o):SAt b h' a its:=by
 cases b with
 |true=>obtain⟨o,e,r⟩:=x;exact⟨o,f o e,r⟩
 |false=>obtain⟨o,e,r⟩:=x;exact⟨o,f o e,r⟩
theorem SIt.ne_at {b c:Bool}{h:Heap}{it a l:Addr}{k:Nat}{its:Array Value} (x:SIt b h it a k) (y:SAt c h l its):l≠it:=by
 rintro rfl
 obtain⟨o,n,e,c1,hn,_⟩:=x.ob
 obtain⟨o',n',e',c2,hn'⟩:=y.ob
 rw[e] at e';cases e'
 rw[c1] at c2;cases c2
 rcases hn with rfl|rfl<;>rcases hn' with h|h<;>exact absurd h (by decide)
section
variable {prog:Program}{w:World}{A:Around}{E:Value→Shared→Prop}{s:Shared}
theorem z3g {b:Bool}{it a:Addr}{k:Nat}{its:Array Value}{x:Value}{Q:Value→Shared→Prop} (hit:SIt b s.heap it a k) (hl:SAt b s.heap a its) (hx:its[k]? =some x)
 (hQ:∀h',SIt b h' it a (k+1)→Heap.SameBut it s.heap h'→Q x {s with heap:=h'}):wpAny (model prog w) A (Builtin.SmallTypes.nextOf (.ref it)) Q E s:=by
 cases b with
 |true=>exact wpAny_nextOf_list_item hit hl hx hQ
 |false=>
  have hit':s.heap.IsTupleIter it a k:=hit
  obtain⟨ob,e1,c1,d1⟩:=id hit'
  obtain⟨ol,e2,_,nl,d2⟩:=hl
  unfold Builtin.SmallTypes.nextOf
  refine wpAny_bind (wpAny_callSpecial?_slot (name:=Str.ofString "__next__") hit'.typeIs F.slot_tuple_iterator_next (wpAny_call_entry F.slot_tuple_iterator_next hit'.typeIs F.entry_tuple_iterator_next ?_ (F.args_tuple_iterator_next_1 _)))
  show wpAny _ _ (field (.ref it) 0>>= _) _ _ s
  refine wpAny_bind (wpAny_field e1 d1 (x:= .ref a) rfl ?_)
  rw[if_neg (show ¬((Value.ref a==Value.none)=true) from q0z)]
  show wpAny _ _ (field (.ref it) 1>>= _) _ _ s
  refine wpAny_bind (wpAny_field e1 d1 (x:= .int k 0) rfl ?_)
  show wpAny _ _ (seqItems? (.ref a)>>= _) _ _ s
  refine wpAny_bind (wpAny_seqItems e2 d2 ?_)
  simp only[q0J,hx]
  refine wpAny_bind (wpAny_setField e1 d1 (by simp) (wpAny_pure ⟨x,rfl,wpAny_pure (hQ _ ?_ (Heap.SameBut.update ..))⟩))
  exact⟨_,Heap.get?_update_self _ e1 (Obj.isFreed_of_fields (Obj.data_mapFields d1 _)),(Obj.cls_mapFields ..).trans c1,by rw[Obj.data_mapFields d1];simp[rawInt]⟩
theorem z6a {b:Bool}{it a:Addr}{k:Nat}{its:Array Value}{Q:Value→Shared→Prop} (hh:A.handled=none) (hit:SIt b s.heap it a k) (hl:SAt b s.heap a its) (hx:its[k]? =none)
 (hE:∀h' e,Heap.ExtBut it s.heap h'→(∃o,h'.get? e=some o∧o.cls= .type "StopIteration")→E (.ref e) {s with heap:=h'}):wpAny (model prog w) A (Builtin.SmallTypes.nextOf (.ref it)) Q E s:=by
 cases b with
 |true=>exact wpAny_nextOf_list_end hh hit hl hx hE
 |false=>
  have hit':s.heap.IsTupleIter it a k:=hit
  obtain⟨ob,e1,c1,d1⟩:=id hit'
  obtain⟨ol,e2,_,nl,d2⟩:=hl
  unfold Builtin.SmallTypes.nextOf
  refine wpAny_bind (wpAny_callSpecial?_slot (name:=Str.ofString "__next__") hit'.typeIs F.slot_tuple_iterator_next (wpAny_call_entry F.slot_tuple_iterator_next hit'.typeIs F.entry_tuple_iterator_next ?_ (F.args_tuple_iterator_next_1 _)))
  show wpAny _ _ (field (.ref it) 0>>= _) _ _ s
  refine wpAny_bind (wpAny_field e1 d1 (x:= .ref a) rfl ?_)
  rw[if_neg (show ¬((Value.ref a==Value.none)=true) from q0z)]
  show wpAny _ _ (field (.ref it) 1>>= _) _ _ s
  refine wpAny_bind (wpAny_field e1 d1 (x:= .int k 0) rfl ?_)
  show wpAny _ _ (seqItems? (.ref a)>>= _) _ _ s
  refine wpAny_bind (wpAny_seqItems e2 d2 ?_)
  simp only[q0J,hx]
  refine wpAny_bind (wpAny_rule (wpAny_bind (wpAny_setField e1 d1 (by simp) ?_)))
  show wpAny _ _ (newExc (.type "StopIteration") []>>= _) _ _ _
  refine wpAny_bind ?_
  simp only[newExc,newTuple]
  refine wpAny_bind (wpAny_newObj_type ?_ (by size_fits))
  refine wpAny_bind (m:=firstArgMember _ _) (wpAny_of_eq (a:=Value.none) (by first|rfl|(simp only[firstArgMember];rfl)) ?_)
  refine wpAny_newObj_type ?_ (by size_fits)
  simp only[raiseNew]
  refine wpAny_bind (wpAny_handled ?_)
  first|rw[show A.in1.handled=none from hh]|rw[hh]
  refine wpAny_bind (wpAny_pure (wpAny_throw ?_))
  exact hE _ _ (((Heap.SameBut.update ..).extBut.push _).push _) ⟨_,q0s _ rfl,rfl⟩
end
end L2
namespace L2
open PySem PySem.Spec PyProof.Rows
structure ZAp (z TI TO i j:Addr):Prop where
 a1:TI≠z
 a2:TO≠z
 a3:i≠z
 a4:j≠z
 a5:TI≠TO
 a6:TI≠i
 a7:TI≠j
 a8:TO≠i
 a9:TO≠j
 a10:i≠j
section
variable {prog:Program}{w:World}{A:Around}{E:Value→Shared→Prop}{s:Shared}
theorem y2G {b c:Bool}{z TI TO i j l m:Addr}{k n:Nat}{xs ys:Array Value}{x y u v:Value}{Q:Value→Shared→Prop} (D:ZAp z TI TO i j) (lz:m≠z) (lT:m≠TO) (lz':l≠z)
 (hz:IsZip s.heap z TI TO .none) (hTI:IsPair s.heap TI (.ref i) (.ref j)) (hTO:IsPair s.heap TO u v)
 (h1:SIt b s.heap i l k) (h2:SIt c s.heap j m n) (hl:SAt b s.heap l xs) (hm:SAt c s.heap m ys) (hx:xs[k]? =some x) (hy:ys[n]? =some y)
 (hQ:∀h',IsZip h' z TI TO (rawInt s.heap.objs.size)→IsPair h' TO x y→SIt b h' i l (k+1)→SIt c h' j m (n+1)→IsPair h' s.heap.objs.size x y→h'.objs.size=s.heap.objs.size+1→
  (∀p o,p≠z→p≠TO→p≠i→p≠j→s.heap.get? p=some o→h'.get? p=some o)→Q (.ref s.heap.objs.size) {s with heap:=h'}):
 wpAny (model prog w) A (Builtin.«zip.__next__» ⟨[.ref z],[]⟩) (fun fin s'=>∃v,fin= .done (.ret v)∧Q v s') E s:=by
 have mi:m≠i:=h1.ne_at hm
 show wpAny _ _ (field (.ref z) 2>>= _) _ _ _
 refine wpAny_bind (wpAny_field hz rfl (x:= .bool false) rfl ?_)
 show wpAny _ _ (field (.ref z) 3>>= _) _ _ _
 refine wpAny_bind (wpAny_field hz rfl (x:= .ref TI) rfl (wpAny_bind (wpAny_seqItems hTI rfl ?_)))
 show wpAny _ _ (Builtin.SmallTypes.ownedTupleIsFree (.ref z)>>= _) _ _ _
 refine wpAny_bind ?_
 unfold Builtin.SmallTypes.ownedTupleIsFree
 refine wpAny_bind (wpAny_field hz rfl (x:= .none) rfl (wpAny_pure ?_))
 simp only[if_true]
 refine wpAny_bind (wpAny_rule (wpAny_bind (wpAny_field hz rfl (x:= .ref TO) rfl (wpAny_bind (wpAny_setField_rec hz (by simp) fun g1 z1 d1=>?_)))))
 replace z1:IsZip g1 z TI TO .ellipsis :=z1
 refine wpAny_bind ?_
 simp only[List.zipIdx_cons,List.zipIdx_nil,List.forIn_cons,List.forIn_nil]
 refine wpAny_bind (wpAny_bind (wpAny_onRaise ?_))
 show wpAny _ _ (Builtin.SmallTypes.nextOf (.ref i)>>= _) _ _ _
 refine wpAny_bind (z3g (h1.keep fun o e=>d1.extBut _ o D.a3 e) (hl.keep fun o e=>d1.extBut _ o lz' e) hx fun g2 i2 d2=>wpAny_pure ?_)
 have TO2:IsPair g2 TO u v:=d2.extBut _ _ D.a8 (d1.extBut _ _ D.a2 hTO)
 refine wpAny_bind (wpAny_seqItems TO2 rfl (wpAny_bind (wpAny_updateSeq_pair TO2 fun g3 TO3 d3=>?_)))
 replace TO3:IsPair g3 TO x v:=TO3
 refine wpAny_bind (wpAny_letGo (wpAny_pure ?_))
 refine wpAny_bind (wpAny_bind (wpAny_onRaise ?_))
 show wpAny _ _ (Builtin.SmallTypes.nextOf (.ref j)>>= _) _ _ _
 refine wpAny_bind (z3g (h2.keep fun o e=>d3.extBut _ o D.a9.symm (d2.extBut _ o D.a10.symm (d1.extBut _ o D.a4 e))) (hm.keep fun o e=>d3.extBut _ o lT (d2.extBut _ o mi (d1.extBut _ o lz e))) hy fun g4 j4 d4=>wpAny_pure ?_)
 have TO4:IsPair g4 TO x v:=d4.extBut _ _ D.a9 TO3
 refine wpAny_bind (wpAny_seqItems TO4 rfl (wpAny_bind (wpAny_updateSeq_pair TO4 fun g5 TO5 d5=>?_)))
 replace TO5:IsPair g5 TO x y:=TO5
 refine wpAny_bind (wpAny_letGo (wpAny_pure (wpAny_pure ?_)))
 refine wpAny_bind (wpAny_seqItems TO5 rfl (wpAny_bind (wpAny_newTuple ?_)))
 have sz:g5.objs.size=s.heap.objs.size:=by rw[d5.1,d4.1,d3.1,d2.1,d1.1]
 have z5:IsZip g5 z TI TO .ellipsis :=d5.extBut _ _ D.a2.symm (d4.extBut _ _ D.a4.symm (d3.extBut _ _ D.a2.symm (d2.extBut _ _ D.a3.symm z1)))
 have k5:∀p o,p≠z→p≠TO→p≠i→p≠j→s.heap.get? p=some o→g5.get? p=some o:=fun p o c1 c2 c3 c4 e=>d5.extBut _ _ c2 (d4.extBut _ _ c4 (d3.extBut _ _ c2 (d2.extBut _ _ c3 (d1.extBut _ _ c1 e))))
 have i5:SIt b g5 i l (k+1):=i2.keep fun o e=>d5.extBut _ o D.a8.symm (d4.extBut _ o D.a10 (d3.extBut _ o D.a8.symm e))
 have j5:SIt c g5 j m (n+1):=j4.keep fun o e=>d5.extBut _ o D.a9.symm e
 have zl:z<g5.objs.size:=q0q z5
 show wpAny _ _ (Builtin.SmallTypes.ownedTupleHandOut (.ref z) (.ref g5.objs.size)>>= _) _ _ _
 refine wpAny_bind ?_
 unfold Builtin.SmallTypes.ownedTupleHandOut
 have z6:IsZip (g5.push {cls:= .type "tuple",data:= .seq #[x,y]}) z TI TO .ellipsis :=q0d _ z5
 refine wpAny_bind (wpAny_setField_rec z6 (by simp) fun g7 z7 d7=>?_)
 replace z7:IsZip g7 z TI TO (rawInt g5.objs.size):=z7
 refine wpAny_setField_rec z7 (by simp) fun g8 z8 d8=>?_
 replace z8:IsZip g8 z TI TO (rawInt g5.objs.size):=z8
 have up:∀p o,p≠z→g5.get? p=some o→g8.get? p=some o:=fun p o c1 e=>d8.extBut _ _ c1 (d7.extBut _ _ c1 (q0d _ e))
 have T8:IsPair g8 g5.objs.size x y:=d8.extBut _ _ (Nat.ne_of_gt zl) (d7.extBut _ _ (Nat.ne_of_gt zl) (q0s _ rfl))
 have s8:g8.objs.size=g5.objs.size+1:=by rw[d8.1,d7.1,q1u]
 rw[sz] at z8 T8 s8
 refine wpAny_pure ⟨_,rfl,?_⟩
 show Q (.ref g5.objs.size) _
 rw[sz]
 exact hQ g8 z8 (up _ _ D.a2 TO5) (i5.keep fun o e=>up _ o D.a3 e) (j5.keep fun o e=>up _ o D.a4 e) T8 s8 fun p o c1 c2 c3 c4 e=>up p o c1 (k5 p o c1 c2 c3 c4 e)
theorem y4x {b c:Bool}{z TI TO i j l m:Addr}{k n:Nat}{xs ys:Array Value}{u v:Value}{Q:Fin→Shared→Prop} (hh:A.handled=none) (D:ZAp z TI TO i j) (lz:m≠z) (lT:m≠TO) (lz':l≠z)
 (hz:IsZip s.heap z TI TO .none) (hTI:IsPair s.heap TI (.ref i) (.ref j)) (hTO:IsPair s.heap TO u v)
 (h1:SIt b s.heap i l k) (h2:SIt c s.heap j m n) (hl:SAt b s.heap l xs) (hm:SAt c s.heap m ys) (hend:xs[k]? =none∨ys[n]? =none)
 (hE:∀h' e,(∀p o,p≠z→p≠TO→p≠i→p≠j→s.heap.get? p=some o→h'.get? p=some o)→(∃o,h'.get? e=some o∧o.cls= .type "StopIteration")→E (.ref e) {s with heap:=h'}):
 wpAny (model prog w) A (Builtin.«zip.__next__» ⟨[.ref z],[]⟩) Q E s:=by
 have mi:m≠i:=h1.ne_at hm
 show wpAny _ _ (field (.ref z) 2>>= _) _ _ _
 refine wpAny_bind (wpAny_field hz rfl (x:= .bool false) rfl ?_)
 show wpAny _ _ (field (.ref z) 3>>= _) _ _ _
 refine wpAny_bind (wpAny_field hz rfl (x:= .ref TI) rfl (wpAny_bind (wpAny_seqItems hTI rfl ?_)))
 show wpAny _ _ (Builtin.SmallTypes.ownedTupleIsFree (.ref z)>>= _) _ _ _
 refine wpAny_bind ?_
 unfold Builtin.SmallTypes.ownedTupleIsFree
 refine wpAny_bind (wpAny_field hz rfl (x:= .none) rfl (wpAny_pure ?_))
 simp only[if_true]
 refine wpAny_bind (wpAny_rule (wpAny_bind (wpAny_field hz rfl (x:= .ref TO) rfl (wpAny_bind (wpAny_setField_rec hz (by simp) fun g1 z1 d1=>?_)))))
 replace z1:IsZip g1 z TI TO .ellipsis :=z1
 refine wpAny_bind ?_
 simp only[List.zipIdx_cons,List.zipIdx_nil,List.forIn_cons,List.forIn_nil]
 refine wpAny_bind (wpAny_bind (wpAny_onRaise ?_))
 show wpAny _ _ (Builtin.SmallTypes.nextOf (.ref i)>>= _) _ _ _
 cases hx:xs[k]? with
 |none=>
  refine wpAny_bind (z6a hh (h1.keep fun o e=>d1.extBut _ o D.a3 e) (hl.keep fun o e=>d1.extBut _ o lz' e) hx fun g2 e d2 he=>?_)
  obtain⟨oe,hoe,hce⟩:=he
  have z2:IsZip g2 z TI TO .ellipsis :=d2 _ _ D.a3.symm z1
  have hez:e≠z:=fun q=>by subst q;rw[z2] at hoe;cases hoe;simp at hce
  exact wpAny_setField_rec z2 (by simp) fun g3 _ d3=>hE g3 e (fun p o c1 _ c3 _ q=>d3.extBut _ _ c1 (d2 _ _ c3 (d1.extBut _ _ c1 q))) ⟨oe,d3.extBut _ _ hez hoe,hce⟩
 |some x=>
  have hy:ys[n]? =none:=hend.elim (fun h=>by rw[hx] at h;cases h) id
  refine wpAny_bind (z3g (h1.keep fun o e=>d1.extBut _ o D.a3 e) (hl.keep fun o e=>d1.extBut _ o lz' e) hx fun g2 i2 d2=>wpAny_pure ?_)
  have TO2:IsPair g2 TO u v:=d2.extBut _ _ D.a8 (d1.extBut _ _ D.a2 hTO)
  refine wpAny_bind (wpAny_seqItems TO2 rfl (wpAny_bind (wpAny_updateSeq_pair TO2 fun g3 TO3 d3=>?_)))
  refine wpAny_bind (wpAny_letGo (wpAny_pure ?_))
  refine wpAny_bind (wpAny_bind (wpAny_onRaise ?_))
  show wpAny _ _ (Builtin.SmallTypes.nextOf (.ref j)>>= _) _ _ _
  refine wpAny_bind (z6a hh (h2.keep fun o e=>d3.extBut _ o D.a9.symm (d2.extBut _ o D.a10.symm (d1.extBut _ o D.a4 e))) (hm.keep fun o e=>d3.extBut _ o lT (d2.extBut _ o mi (d1.extBut _ o lz e))) hy fun g4 e d4 he=>?_)
  obtain⟨oe,hoe,hce⟩:=he
  have z4:IsZip g4 z TI TO .ellipsis :=d4 _ _ D.a4.symm (d3.extBut _ _ D.a2.symm (d2.extBut _ _ D.a3.symm z1))
  have hez:e≠z:=fun q=>by subst q;rw[z4] at hoe;cases hoe;simp at hce
  exact wpAny_setField_rec z4 (by simp) fun g5 _ d5=>hE g5 e (fun p o c1 c2 c3 c4 q=>d5.extBut _ _ c1 (d4 _ _ c4 (d3.extBut _ _ c2 (d2.extBut _ _ c3 (d1.extBut _ _ c1 q))))) ⟨oe,d5.extBut _ _ hez hoe,hce⟩
theorem z8R {z TI TO:Addr}{f0:Value}{Q:Option Value→Shared→Prop} (hz:IsZip s.heap z TI TO f0)
 (h:wpAny (model prog w) A.in1 (Builtin.«zip.__next__» ⟨[.ref z],[]⟩) (fun fin s'=>∃v,fin= .done (.ret v)∧Q (some v) s') (fun e s'=>(∃a o,e= .ref a∧s'.heap.get? a=some o∧o.cls= .type "StopIteration")∧Q none s') s):wpAny (model prog w) A (pyNext (.ref z)) Q E s:=by
 have hT:s.TypeIs (.ref z) "zip":=⟨_,hz,rfl⟩
 unfold pyNext
 refine wpAny_bind (wpAny_attempt (wpAny_callSpecial?_slot (name:=Str.ofString "__next__") hT F.slot_zip_next (wpAny_call_entry F.slot_zip_next hT F.entry_zip_next ?_ (F.args_zip_next_1 _))))
 refine wpAny_mono h (fun fin s' ⟨v,e,q⟩=>⟨v,e,wpAny_pure q⟩) fun e s' ⟨⟨a,o,e1,e2,e3⟩,q⟩=>?_
 subst e1
 exact wpAny_bind (wpAny_isInstance (T:="StopIteration") (b:=true) ⟨o,e2,e3⟩ isSubtype_stop (wpAny_pure q))
end
end L2
namespace L2
open PySem PySem.Spec PyProof.Rows
def itN (b:Bool):String:=match b with
 |true=>"list_iterator"
 |false=>"tuple_iterator"
abbrev itO (b:Bool) (a:Addr):Obj:={cls:= .type (itN b),data:= .fields #[.ref a,.int 0 0]}
theorem SAt.push {b:Bool}{h:Heap}{a:Addr}{its:Array Value} (x:SAt b h a its) (o:Obj):SAt b (h.push o) a its:=x.keep fun _ e=>q0d _ e
theorem SIt.new {b:Bool}{h:Heap}{a:Addr}:SIt b (h.push (itO b a)) h.objs.size a 0:=by
 cases b with
 |true=>exact⟨_,Heap.get?_push_size _ rfl,rfl,rfl⟩
 |false=>exact⟨_,Heap.get?_push_size _ rfl,rfl,rfl⟩
section
variable {prog:Program}{w:World}{A:Around}{E:Value→Shared→Prop}{s:Shared}
theorem z4D {b:Bool}{a:Addr}{its:Array Value}{Q:Value→Shared→Prop} (h:SAt b s.heap a its) (q:Q (.ref s.heap.objs.size) {s with heap:=s.heap.push (itO b a)}):wpAny (model prog w) A (pyIter (.ref a)) Q E s:=by
 cases b with
 |true=>exact wpAny_pyIter_list (show s.heap.IsList a its from h) q
 |false=>exact wpAny_pyIter_tuple (show s.heap.IsTuple a its from h) q
end
abbrev zA (h:Heap) (b:Bool) (l:Addr):Heap:=h.push (itO b l)
abbrev zB (h:Heap) (b c:Bool) (l m:Addr):Heap:=(zA h b l).push (itO c m)
abbrev zC (h:Heap) (b c:Bool) (l m:Addr):Heap:=(zB h b c l m).push {cls:= .type "tuple",data:= .seq #[.ref h.objs.size,.ref (zA h b l).objs.size]}
abbrev zD (h:Heap) (b c:Bool) (l m:Addr):Heap:=(zC h b c l m).push {cls:= .type "tuple",data:= .seq #[.none,.none]}
abbrev zE (h:Heap) (b c:Bool) (l m:Addr):Heap:=(zD h b c l m).push {cls:= .type "zip",data:= .fields #[.none,.bool false,.bool false,.ref (zB h b c l m).objs.size,.ref (zC h b c l m).objs.size]}
theorem y1H (b c:Bool) (l m:Addr) (xs ys:Array Value):
 Meets (Builtin.«zip.__new__» ⟨[.type "zip",.ref l,.ref m],[]⟩) (fun _ R s=>SAt b s.heap l xs∧SAt c s.heap m ys∧R (.ok (.ret (.ref (zD s.heap b c l m).objs.size))) {s with heap:=zE s.heap b c l m}):=
 .of_wp fun prog w A R s h=>by
  obtain⟨hp,g,d,tk,os⟩:=s;obtain⟨h1,h2,h⟩:=h
  have hsub:=sub_zip
  have k1:SAt b (Shared.heap ⟨hp,g,d,tk,os⟩) l xs:=h1
  have k2:SAt c (Shared.heap ⟨hp.push (itO b l),g,d,tk,os⟩) m ys:=SAt.push h2 _
  wp_walk using z4D k1,z4D k2
  exact⟨_,rfl,h⟩
section
variable {prog:Program}{w:World}{A:Around}{E:Value→Shared→Prop}{s:Shared}
theorem y3O {b c:Bool}{l m:Addr}{xs ys:Array Value}{Q:Value→Shared→Prop} (hl:SAt b s.heap l xs) (hm:SAt c s.heap m ys)
 (h:∀h',IsZip h' (s.heap.objs.size+4) (s.heap.objs.size+2) (s.heap.objs.size+3) .none →IsPair h' (s.heap.objs.size+2) (.ref s.heap.objs.size) (.ref (s.heap.objs.size+1))→IsPair h' (s.heap.objs.size+3) .none .none →
  SIt b h' s.heap.objs.size l 0→SIt c h' (s.heap.objs.size+1) m 0→(∀p o,s.heap.get? p=some o→h'.get? p=some o)→Q (.ref (s.heap.objs.size+4)) {s with heap:=h'}):
 wpAny (model prog w) A (call (.type "zip") [.ref l,.ref m]) Q E s:=by
 refine callType_new F.called_zip (by decide) (F.typeCall_zip_2 _ _) (F.newCall_zip_2 _ _) (fun obj=>F.args_object_init_3 obj _ _) F.entry_zip_new (y1H b c l m xs ys) ⟨hl,hm,?_⟩
 have z1:(zA s.heap b l).objs.size =s.heap.objs.size+1:=q1u ..
 have z2:(zB s.heap b c l m).objs.size =s.heap.objs.size+2:=by rw[q1u,z1]
 have z3:(zC s.heap b c l m).objs.size =s.heap.objs.size+3:=by rw[q1u,z2]
 have z4:(zD s.heap b c l m).objs.size =s.heap.objs.size+4:=by rw[q1u,z3]
 have g5:(zE s.heap b c l m).get? (zD s.heap b c l m).objs.size =some _:=q0s _ rfl
 have g4:(zE s.heap b c l m).get? (zC s.heap b c l m).objs.size =some _:=q0d _ (q0s _ rfl)
 have g3:(zE s.heap b c l m).get? (zB s.heap b c l m).objs.size =some _:=q0d _ (q0d _ (q0s _ rfl))
 have g2:SIt c (zE s.heap b c l m) (zA s.heap b l).objs.size m 0:=SIt.new.keep fun o e=>q0d _ (q0d _ (q0d _ e))
 have g1:SIt b (zE s.heap b c l m) s.heap.objs.size l 0:=SIt.new.keep fun o e=>q0d _ (q0d _ (q0d _ (q0d _ e)))
 show _∧_
 rw[z2,z3,z4] at g5
 rw[z1,z2] at g3
 rw[z3] at g4
 rw[z1] at g2
 rw[z4]
 exact⟨⟨_,g5,rfl⟩,h _ g5 g3 g4 g1 g2 fun p o e=>q0d _ (q0d _ (q0d _ (q0d _ (q0d _ e))))⟩
end
def SqB (b:Bool) (K:PySem.W.Frag) (H:Hp) (a:Addr) (xs:List V):Prop:=match b with
 |true=>SqL K H a xs
 |false=>SqT K H a xs
section
variable {X:Cx}{pins:List (Addr×Obj)}{σ:St}{H:Hp}{s:Shared}{a:Addr}{xs ys:List V}{b:Bool}
theorem SqA.toB {K:PySem.W.Frag} (h:SqA K H a xs):∃b,SqB b K H a xs:=by
 rcases h with h|h
 ·exact⟨true,h⟩
 ·exact⟨false,h⟩
theorem Inv.sq (I:Inv X pins σ H s) (h:SqB b X.K H a xs):∃its:List Value,Vals xs its∧SAt b s.heap a its.toArray∧xs.length≤sizeLine:=by
 cases b with
 |true=>obtain⟨its,r,p,z⟩:=I.list h;exact⟨its,r,p.isList,z⟩
 |false=>obtain⟨its,r,p,z⟩:=I.tuple h;exact⟨its,r,p,z⟩
theorem Inv.sq_inj (I:Inv X pins σ H s) (h:SqB b X.K H a xs) (h':SqB b X.K H a ys):xs=ys:=by
 cases b with
 |true=>exact I.list_inj h h'
 |false=>exact I.tuple_inj h h'
theorem Inv.sq_ne (I:Inv X pins σ H s) (h:SqB b X.K H a xs) {c:Addr} (f:y2C X pins H c):a≠c:=by
 have tr:∀u,Rd H a u→a≠c:=fun u r z=>by
  subst z
  rcases r with r|⟨o,r⟩
  ·rw[f.1] at r;cases r
  ·rw[f.1] at r;cases r
 have kn:∀o,X.K.lookup a=some o→a≠c:=fun o e z=>by
  subst z
  have eb:=I.ok.mod.kin a o e
  rcases f.2.2.2.1 with q|q
  ·exact I.ok.noex a o eb q
  ·exact absurd (q0N (q0q (I.ok.bs a o eb).1) q) (Nat.lt_irrefl _)
 cases b with
 |true=>
  rcases h with h|⟨o,_,_,e,_⟩
  ·exact tr _ h
  ·exact kn o e
 |false=>
  rcases h with h|⟨o,_,_,e,_⟩
  ·exact tr _ h
  ·exact kn o e
end
def Itz (K:PySem.W.Frag) (b c:Bool) (l m:Addr):It:=
 ⟨fun i H=>∃xs ys x y,SqB b K H l xs∧SqB c K H m ys∧xs[i]? =some x∧ys[i]? =some y,
  fun i H x H'=>∃p u v,x= .ref p∧H p=none∧(∀xs,SqB b K H l xs→xs[i]? =some u)∧(∀ys,SqB c K H m ys→ys[i]? =some v)∧H'=upd H p (.tup [u,v]),
  fun i H=>∃xs ys,SqB b K H l xs∧SqB c K H m ys∧(xs.length≤i∨ys.length≤i)⟩
theorem y2I {P:Program}{w:World}{K:PySem.W.Frag}{elts:List Expr}{kk:Nat}{pos:Pos} (b c:Bool) (l m z TI TO i j:Addr) (D:ZAp z TI TO i j):
 y5M P w K (.Tuple elts kk pos) (Itz K b c l m) [z,TI,TO,i,j] z (fun k h=>IsZip h z TI TO .none ∧IsPair h TI (.ref i) (.ref j)∧(∃u v,IsPair h TO u v)∧SIt b h i l k∧SIt c h j m k) where
 mem:=by simp
 obj:=fun k h st q hq=>by
  obtain⟨t1,t2,⟨u,v,t3⟩,t4,t5⟩:=st
  have fin:∀(o:Obj),(∃v,o.data= .fields v)∨(∃a n,o.data= .seq a n)→∀v,o.data≠ .cell v:=fun o h v e=>by
    rcases h with⟨w',h⟩|⟨a,n,h⟩<;> ·rw[h] at e;cases e
  simp only[q0r,List.not_mem_nil,or_false] at hq
  rcases hq with rfl|rfl|rfl|rfl|rfl
  ·exact⟨_,t1,fin _ (.inl ⟨_,rfl⟩)⟩
  ·exact⟨_,t2,fin _ (.inr ⟨_,_,rfl⟩)⟩
  ·exact⟨_,t3,fin _ (.inr ⟨_,_,rfl⟩)⟩
  ·obtain⟨o,_,e,_,_,d⟩:=t4.ob;exact⟨o,e,fin _ (.inl ⟨_,d⟩)⟩
  ·obtain⟨o,_,e,_,_,d⟩:=t5.ob;exact⟨o,e,fin _ (.inl ⟨_,d⟩)⟩
 keep:=fun k h h' st f=>by
  obtain⟨t1,t2,⟨u,v,t3⟩,t4,t5⟩:=st
  exact⟨f z (by simp) _ t1,f TI (by simp) _ t2,⟨u,v,f TO (by simp) _ t3⟩,t4.keep fun o e=>f i (by simp) o e,t5.keep fun o e=>f j (by simp) o e⟩
 item:=by
  intro X hP hw hK hc k pins s σ H E I hf st hg
  subst hP hw hK
  obtain⟨xs,ys,x,y,q1,q2,hx,hy⟩:=hg
  obtain⟨its,r1,p1,s1⟩:=I.sq q1
  obtain⟨jts,r2,p2,s2⟩:=I.sq q2
  obtain⟨u,hu,ru⟩:=r1.get hx
  obtain⟨v,hv,rv⟩:=r2.get hy
  obtain⟨t1,t2,⟨u0,v0,t3⟩,t4,t5⟩:=st
  have fz:=hf z (by simp)
  have fO:=hf TO (by simp)
  refine z8R t1 (y2G D (I.sq_ne q2 fz) (I.sq_ne q2 fO) (I.sq_ne q1 fz) t1 t2 t3 t4 t5 p1 p2 (x:=u) (y:=v) (by simpa using hu) (by simpa using hv) fun h' a1 a2 a3 a4 a5 a6 a7=>?_)
  refine⟨_,rfl,wpAny_letOwnedTupleGo_zip a1 fun h2 e2 d2=>?_⟩
  have lt:∀{p o},s.heap.get? p=some o→s.heap.objs.size≠p:=fun e=>Nat.ne_of_gt (q0q e)
  have hT2:h2.get? s.heap.objs.size=some {cls:= .type "tuple",data:= .seq #[u,v]}:=d2.extBut _ _ (lt t1) a5
  have t2':IsPair h2 TI (.ref i) (.ref j):=d2.extBut _ _ D.a1 (a7 _ _ D.a1 D.a5 D.a6 D.a7 t2)
  have I1:Inv X pins σ (upd H s.heap.objs.size (.tup [x,y])) {s with heap:=h2}:=by
   refine I.turnedLaid (t':=s.toks) (fp:=[z,TI,TO,i,j]) hf (fun p ob hp q=>?_) (q0j _) ?_
   ·simp only[q0r,List.not_mem_nil,or_false,not_or] at hp
    exact d2.extBut p ob hp.1 (a7 p ob hp.1 hp.2.2.1 hp.2.2.2.1 hp.2.2.2.2 q)
   ·exact⟨by show 2≤sizeLine;decide,[u,v],.cons ru (.cons rv .nil),_,hT2,rfl,_,rfl⟩
  refine⟨.ref s.heap.objs.size,_,I1,rfl,⟨_,x,y,rfl,I.hok.fresh (q0j _),fun zs hz=>by rw[I.sq_inj hz q1];exact hx,fun zs hz=>by rw[I.sq_inj hz q2];exact hy,rfl⟩,
   ⟨e2,t2',⟨_,_,d2.extBut _ _ D.a2 a2⟩,a3.keep fun o e=>d2.extBut _ o D.a3 e,a4.keep fun o e=>d2.extBut _ o D.a4 e⟩,fun p hp=>?_⟩
  have hlt:p<s.heap.objs.size:=by
   simp only[q0r,List.not_mem_nil,or_false] at hp
   rcases hp with rfl|rfl|rfl|rfl|rfl
   ·exact q0q t1
   ·exact q0q t2
   ·exact q0q t3
   ·obtain⟨o,_,e,_⟩:=t4.ob;exact q0q e
   ·obtain⟨o,_,e,_⟩:=t5.ob;exact q0q e
  rw[z0l (q0w hlt)]
  exact (hf p hp).1
 done:=by
  intro X hP hw hK hc k pins s σ H E I hf st hg
  subst hP hw hK
  obtain⟨xs,ys,q1,q2,hend⟩:=hg
  obtain⟨its,r1,p1,s1⟩:=I.sq q1
  obtain⟨jts,r2,p2,s2⟩:=I.sq q2
  obtain⟨t1,t2,⟨u0,v0,t3⟩,t4,t5⟩:=st
  have fz:=hf z (by simp)
  have fO:=hf TO (by simp)
  have l1:=r1.length
  have l2:=r2.length
  refine z8R t1 (y4x (I.ok.hd hc) D (I.sq_ne q2 fz) (I.sq_ne q2 fO) (I.sq_ne q1 fz) t1 t2 t3 t4 t5 p1 p2 (by simp;lia) fun h' e a7 he=>⟨let ⟨o,e1,e2⟩:=he;⟨e,o,rfl,e1,e2⟩,rfl,?_⟩)
  refine I.turnedAll (t':=s.toks) (fp:=[z,TI,TO,i,j]) hf fun p ob hp q=>?_
  simp only[q0r,List.not_mem_nil,or_false,not_or] at hp
  exact a7 p ob hp.1 hp.2.2.1 hp.2.2.2.1 hp.2.2.2.2 q
 self:=fun _ _ _ _ _ st h=>wpAny_pyIter_zip st.1 h
section
variable {X:Cx}
def iZip (tl:TA):TI:=fun σ H R=>tl σ H fun vs H1=>∃l m b c xs ys,vs=[.ref l,.ref m]∧SqB b X.K H1 l xs∧SqB c X.K H1 m ys∧R (Itz X.K b c l m) H1
theorem y6m {elts:List Expr}{k:Nat}{tpos:Pos}{l m:Expr}{tl:TA}{p pos:Pos} (hg:Gl X "zip") (hm:X.mg "zip"=none) (ha:PA X [l,m] tl) (hs:starEach [l,m] X.env=[(false,eval l X.env),(false,eval m X.env)]:=by rfl) (hs2:starEach [m] X.env=[(false,eval m X.env)]:=by rfl):
 PI X (.Tuple elts k tpos) (.Call (.Name "zip" p) [l,m] [] pos) (iZip (X:=X) tl):=by
 intro pins s σ H R I h
 refine Call_ (z3D I hg hm boot_zip (PyProof.Rows.callWith_type1 (thn (ha pos pins s σ H _ I h) fun us s1 ⟨vs,H1,I1,r1,q1⟩=>?_) (by rw[hs,hs2]) (by rw[hs2];rfl)))
 obtain⟨a,b,bb,bc,xs,ys,e,q1,q2,q⟩:=q1
 subst e
 cases r1 with
 |cons r rr=>
  cases rr with
  |cons r' rr=>
   cases rr
   cases r
   cases r'
   obtain⟨its,v1,p1,_⟩:=I1.sq q1
   obtain⟨jts,v2,p2,_⟩:=I1.sq q2
   refine y3O p1 p2 fun h' z1 z2 z3 z4 z5 kp=>wpAny_pyIter_zip z1 ?_
   have I2:Inv X pins σ H1 {s1 with heap:=h'}:=I1.kept (t':=s1.toks) kp
   have ne:∀x y:Nat,x≠y→s1.heap.objs.size+x≠s1.heap.objs.size+y:=fun x y h e=>h (Nat.add_left_cancel e)
   have D:ZAp (s1.heap.objs.size+4) (s1.heap.objs.size+2) (s1.heap.objs.size+3) s1.heap.objs.size (s1.heap.objs.size+1):=
        ⟨ne 2 4 (by decide),ne 3 4 (by decide),ne 0 4 (by decide),ne 1 4 (by decide),ne 2 3 (by decide),ne 2 0 (by decide),ne 2 1 (by decide),ne 3 0 (by decide),ne 3 1 (by decide),ne 0 1 (by decide)⟩
   refine⟨_,[s1.heap.objs.size+4,s1.heap.objs.size+2,s1.heap.objs.size+3,s1.heap.objs.size,s1.heap.objs.size+1],_,_,H1,rfl,I2,y2I bb bc a b _ _ _ _ _ D,⟨z1,z2,⟨_,_,z3⟩,z4,z5⟩,fun c hc=>?_,q⟩
   have le:s1.heap.objs.size≤c:=by
        simp only[q0r,List.not_mem_nil,or_false] at hc
        rcases hc with rfl|rfl|rfl|rfl|rfl
        ·exact Nat.le_add_right _ _
        ·exact Nat.le_add_right _ _
        ·exact Nat.le_add_right _ _
        ·exact q0j _
        ·exact Nat.le_add_right _ _
   exact I1.fpOk le (I1.hok.fresh le)
end
end L2
namespace L2
open PySem PySem.Spec PyProof.Rows
structure z6r (J:It) (n:Nat) (Ok:Hp→Prop) (yl:Nat→Hp→V→Hp→Prop):Prop where
 go:∀i H,Ok H→i<n→J.go i H
 stop:∀H,Ok H→J.stop n H
 yld:∀i H x H',Ok H→i<n→J.yld i H x H'→yl i H x H'
theorem z0z (K:PySem.W.Frag) (a:Addr) (xs:List V):z6r (Itl K a) xs.length (fun H=>SqL K H a xs) (fun i H x H'=>H'=H∧xs[i]? =some x) where
 go:=fun i H h hi=>⟨xs,xs[i],h,by simp[hi]⟩
 stop:=fun H h=>⟨xs,h,q0j _⟩
 yld:=fun i H x H' h hi y=>⟨y.1,y.2 xs h⟩
theorem z2H (K:PySem.W.Frag) (a:Addr) (xs:List V):z6r (Itt K a) xs.length (fun H=>SqT K H a xs) (fun i H x H'=>H'=H∧xs[i]? =some x) where
 go:=fun i H h hi=>⟨xs,xs[i],h,by simp[hi]⟩
 stop:=fun H h=>⟨xs,h,q0j _⟩
 yld:=fun i H x H' h hi y=>⟨y.1,y.2 xs h⟩
theorem z1m (lo:Int) (n:Nat):z6r (Itr lo n) n (fun _=>True) (fun i H x H'=>H'=H∧x= .int (lo+i)) where
 go:=fun i H h hi=>hi
 stop:=fun H h=>q0j _
 yld:=fun i H x H' h hi y=>y
theorem z4o (K:PySem.W.Frag) (a:Addr) (xs:List V):z6r (Ite K a) xs.length (fun H=>SqL K H a xs) (fun i H x H'=>∃p v,x= .ref p∧H p=none∧xs[i]? =some v∧H'=upd H p (.tup [.int i,v])) where
 go:=fun i H h hi=>⟨xs,xs[i],h,by simp[hi]⟩
 stop:=fun H h=>⟨xs,h,q0j _⟩
 yld:=fun i H x H' h hi y=>let ⟨p,v,e,hn,hv,e2⟩:=y;⟨p,v,e,hn,hv xs h,e2⟩
theorem y2W (K:PySem.W.Frag) (b c:Bool) (l m:Addr) (xs ys:List V):z6r (Itz K b c l m) (min xs.length ys.length) (fun H=>SqB b K H l xs∧SqB c K H m ys)
 (fun i H x H'=>∃p u v,x= .ref p∧H p=none∧xs[i]? =some u∧ys[i]? =some v∧H'=upd H p (.tup [u,v])) where
 go:=fun i H h hi=>⟨xs,ys,xs[i]'(by lia),ys[i]'(by lia),h.1,h.2,by simp,by simp⟩
 stop:=fun H h=>⟨xs,ys,h.1,h.2,by lia⟩
 yld:=fun i H x H' h hi y=>let ⟨p,u,v,e,hn,hu,hv,e2⟩:=y;⟨p,u,v,e,hn,hu xs h.1,hv ys h.2,e2⟩
theorem z0E {J:It}{n:Nat}{Ok:Hp→Prop}{yl:Nat→Hp→V→Hp→Prop} (R:z6r J n Ok yl) {g:TG}{tb:TS}{D:y4w}{σ:St}{H:Hp} (Pv:Nat→St→Hp→Prop) (h0:Pv 0 σ H) (hl:∀i σ H,i≤n→Pv i σ H→Ok H)
 (hs:∀i x σ H H',i<n→Pv i σ H→yl i H x H'→g x σ H' fun σ2 H2=>tb {D with nx:=Pv (i+1),ct:=Pv (i+1),bk:=D.nx} σ2 H2) (hd:∀σ H,Pv n σ H→D.nx σ H):
 ∃W:Nat→Nat→St→Hp→Prop,(∃m,W 0 m σ H)∧∀i m σ H,W i m σ H→
  (J.stop i H∧D.nx σ H)∨(J.go i H∧∃N:St→Hp→Prop,(∀σ' H',N σ' H'→∃m',m'<m∧W (i+1) m' σ' H')∧∀x H',J.yld i H x H'→g x σ H' fun σ2 H2=>tb {D with nx:=N,ct:=N,bk:=D.nx} σ2 H2):=by
 refine⟨fun i m σ H=>m=n - i∧i≤n∧Pv i σ H,⟨n,by simp,q0S _,h0⟩,?_⟩
 rintro i m σ H ⟨rfl,hi,p⟩
 have q:=hl i σ H hi p
 by_cases hlt:i<n
 ·exact .inr ⟨R.go i H q hlt,Pv (i+1),fun σ' H' p'=>⟨n - (i+1),by lia,rfl,hlt,p'⟩,fun x H' y=>hs i x σ H H' hlt p (R.yld i H x H' q hlt y)⟩
 ·have e:i=n:=by lia
  subst e
  exact .inl ⟨R.stop H q,hd σ H p⟩
theorem z4I {J:It}{n:Nat}{Ok:Hp→Prop}{yl:Nat→Hp→V→Hp→Prop} (R:z6r J n Ok yl) {fr:List (Option Nat)}{g:TG}{tt:TT}{te:TE}{σ:St}{H1:Hp}{Q:VK}{D:Addr} (Pv:Nat→List V→St→Hp→Prop)
 (h0:Pv 0 [] (z0H fr σ) (upd H1 D (.lst []))) (hl:∀i acc σ H,i≤n→Pv i acc σ H→Ok H∧acc.length≤i) (hn:n≤sizeLine)
 (hs:∀(N:Bool→V→St→Hp→Prop) (i:Nat) (x:V) (acc:List V) (σ:St) (H H':Hp),i<n→Pv i acc σ H→yl i H x H'→
  (∀v σ2 H4,H4 D=some (.lst acc)→Pv (i+1) (acc++[v]) σ2 (upd H4 D (.lst (acc++[v])))→N true v σ2 H4)→(∀σ2 H3,Pv (i+1) acc σ2 H3→N false .non σ2 H3)→
  g x σ H' fun σ2 H2=>tt σ2 H2 fun b H3=>if b=true then te σ2 H3 fun v H4=>N true v σ2 H4 else N false .non σ2 H3)
 (hd:∀acc σ H,Pv n acc σ H→Q (.ref D) H):
 z3E J g tt te Q D (z0H fr σ) (upd H1 D (.lst [])):=by
 refine⟨fun i m σ H=>m=n - i∧i≤n∧∃acc,Pv i acc σ H,⟨n,by simp,q0S _,[],h0⟩,?_⟩
 rintro i m σ H ⟨em,hi,acc,p⟩
 obtain⟨q,ha⟩:=hl i acc σ H hi p
 by_cases hlt:i<n
 ·refine .inr ⟨R.go i H q hlt,fun x H' y=>?_⟩
  exact hs (fun b v σ2 H4=>match b with|true=>∃acc' m',H4 D=some (.lst acc')∧acc'.length<sizeLine∧m'<m∧(m'=n - (i+1)∧i+1≤n∧∃acc2,Pv (i+1) acc2 σ2 (upd H4 D (.lst (acc'++[v]))))|false=>∃m',m'<m∧(m'=n - (i+1)∧i+1≤n∧∃acc2,Pv (i+1) acc2 σ2 H4))
   i x acc σ H H' hlt p (R.yld i H x H' q hlt y) (fun v σ2 H4 e pv=>⟨acc,n - (i+1),e,by lia,by lia,rfl,hlt,_,pv⟩) (fun σ2 H3 pv=>⟨n - (i+1),by lia,rfl,hlt,_,pv⟩)
 ·have e:i=n:=by lia
  subst e
  exact .inl ⟨R.stop H q,hd acc σ H p⟩
theorem z0C {α:Type} (xs:List α):xs.filter (fun _=>true)=xs:=List.filter_eq_self.mpr fun _ _=>rfl
theorem z1k {J:It}{n:Nat}{Ok:Hp→Prop}{xs:List V} (hx:n=xs.length) (R:z6r J n Ok (fun i H x H'=>H'=H∧xs[i]? =some x)) {fr:List (Option Nat)}{tt:TT}{te:TE}{σ:St}{H1:Hp}{Q:VK}{D:Addr} (hD:H1 D=none) (tst:V→Bool) (val:V→V)
 (hok:∀H,Same H1 H→Ok H) (hn:n≤sizeLine)
 (ht:∀x∈xs,∀Hc,Same H1 Hc→∀S:Bool→Hp→Prop,S (tst x) Hc→tt ((z0H fr σ).set 0 (some x)) Hc S)
 (hv:∀x∈xs,tst x=true→∀Hc,Same H1 Hc→∀S:VK,S (val x) Hc→te ((z0H fr σ).set 0 (some x)) Hc S)
 (q:Q (.ref D) (upd H1 D (.lst ((xs.filter tst).map val)))):
 z3E J (z9X 0) tt te Q D (z0H fr σ) (upd H1 D (.lst [])):=by
 subst hx
 have st:∀acc,Same H1 (upd H1 D (.lst acc)):=fun acc=>z0f hD _
 refine z4I R (fun i acc σ' H'=>(∃o,σ'=(z0H fr σ).set 0 o∨σ'=z0H fr σ)∧H'=upd H1 D (.lst acc)∧acc=((xs.take i).filter tst).map val) ⟨⟨none,.inr rfl⟩,rfl,by simp⟩ ?_ hn ?_ ?_
 ·rintro i acc σ' H' hi ⟨_,rfl,rfl⟩
  refine⟨hok _ (st _),?_⟩
  rw[q0a]
  refine q0p (q1q _ _) ?_
  rw[q0o];lia
 ·rintro N i x acc σ' H' H'' hi ⟨hσ,rfl,ha⟩ ⟨rfl,hx⟩ n1 n2
  have hm:x∈xs:=q0E hx
  have es:σ'.set 0 (some x)=(z0H fr σ).set 0 (some x):=by
   obtain⟨o,e|e⟩:=hσ
   ·rw[e,List.set_set]
   ·rw[e]
  show tt (σ'.set 0 (some x)) _ _
  rw[es]
  have tk:xs.take (i+1)=xs.take i++[x]:=by rw[q0R,hx];rfl
  refine ht x hm _ (st _) _ ?_
  cases hb:tst x with
  |true=>
   refine z4N (hv x hm hb _ (st _) _ (n1 _ _ _ z0d ⟨⟨_,.inl rfl⟩,y0o,?_⟩))
   rw[tk,q0W,q0x,←ha]
   simp[hb]
  |false=>
   refine z1I (n2 _ _ ⟨⟨_,.inl rfl⟩,rfl,?_⟩)
   rw[tk,q0W,q0x,←ha]
   simp[hb]
 ·rintro acc σ' H' ⟨_,rfl,rfl⟩
  rw[q0T]
  exact q
section
variable {X:Cx}{K:PySem.W.Frag}{tg:Expr}
theorem z0B (h:X.K=K):IxR X (rIxL K):=by subst h;exact y1O
theorem z0P (h:X.K=K):IxR X (rIxT K):=by subst h;exact y4n
theorem z1n (h:X.K=K):SlR X (rSlL K):=by subst h;exact y0M
theorem y4G (h:X.K=K):SlR X (rSlT K):=by subst h;exact y3Z
def cLen (K:PySem.W.Frag):List V→Hp→VK→Prop:=fun xs H Q=>∃p ys,xs=[.ref p]∧SqA K H p ys∧Q (.int ys.length) H
theorem z0M (h:X.K=K):z2t X (.builtin "len") (cLen K):=by subst h;exact z7l
def cAny (K:PySem.W.Frag):List V→Hp→VK→Prop:=fun xs H Q=>∃p ys,xs=[.ref p]∧SqA K H p ys∧(∀y∈ys,PlV y)∧Q (.bl (ys.any trV)) H
theorem z1S (h:X.K=K) (hc:X.calm=true):z2t X (.builtin "any") (cAny K):=by subst h;exact y3P hc
def cAll (K:PySem.W.Frag):List V→Hp→VK→Prop:=fun xs H Q=>∃p ys,xs=[.ref p]∧SqA K H p ys∧(∀y∈ys,PlV y)∧Q (.bl (ys.all trV)) H
theorem y2w (h:X.K=K) (hc:X.calm=true):z2t X (.builtin "all") (cAll K):=by subst h;exact y3Q hc
def cList (K:PySem.W.Frag):List V→Hp→VK→Prop:=fun xs H Q=>∃p ys,xs=[.ref p]∧SqA K H p ys∧∀l,H l=none→Q (.ref l) (upd H l (.lst ys))
theorem z2J (h:X.K=K):z2t X (.type "list") (cList K):=by subst h;exact z7k
def y6U (K:PySem.W.Frag):List V→Hp→VK→Prop:=fun xs H Q=>∃p ys,xs=[.ref p]∧((SqL K H p ys∧∀l,H l=none→Q (.ref l) (upd H l (.tup ys)))∨(SqT K H p ys∧Q (.ref p) H))
theorem z1R (h:X.K=K):z2t X (.type "tuple") (y6U K):=by subst h;exact z6o
theorem y6y (h:X.K=K):OpR X (compareOp .In) (rIn K false):=by subst h;exact y1n
theorem y1m (h:X.K=K):OpR X (compareOp .NotIn) (rIn K true):=by subst h;exact z6M
theorem z0D (h:X.K=K) {l:Expr}{tl:TE} (hl:PE X l tl):PI X tg l (y6N K tl):=by subst h;exact y4S hl
theorem z4p (h:X.K=K) {l:Expr}{tl:TE} (hl:PE X l tl):PI X tg l (iTup K tl):=by subst h;exact y6n hl
def y6O (K:PySem.W.Frag) (tl:TA):TI:=fun σ H R=>tl σ H fun vs H1=>∃a xs,vs=[.ref a]∧H1 a=some (.lst xs)∧R (Ite K a) H1
theorem z5S (h:X.K=K) {elts:List Expr}{k:Nat}{tpos:Pos}{l:Expr}{tl:TA}{p pos:Pos} (hg:Gl X "enumerate") (hm:X.mg "enumerate"=none) (ha:PA X [l] tl) (hs:starEach [l] X.env=[(false,eval l X.env)]:=by rfl):
 PI X (.Tuple elts k tpos) (.Call (.Name "enumerate" p) [l] [] pos) (y6O K tl):=by subst h;exact y4T hg hm ha hs
def iZipK (K:PySem.W.Frag) (tl:TA):TI:=fun σ H R=>tl σ H fun vs H1=>∃l m b c xs ys,vs=[.ref l,.ref m]∧SqB b K H1 l xs∧SqB c K H1 m ys∧R (Itz K b c l m) H1
theorem z2A (h:X.K=K) {elts:List Expr}{k:Nat}{tpos:Pos}{l m:Expr}{tl:TA}{p pos:Pos} (hg:Gl X "zip") (hm:X.mg "zip"=none) (ha:PA X [l,m] tl) (hs:starEach [l,m] X.env=[(false,eval l X.env),(false,eval m X.env)]:=by rfl) (hs2:starEach [m] X.env=[(false,eval m X.env)]:=by rfl):
 PI X (.Tuple elts k tpos) (.Call (.Name "zip" p) [l,m] [] pos) (iZipK K tl):=by subst h;exact y6m hg hm ha hs hs2
theorem z0S (h:X.K=K) {es:List Expr}{k:Nat}{pos:Pos}{t:TGs} (n:Nat) (hc:X.calm=true) (hp:PGs X es t) (hn:(assignEach es X.env).length =n:=by rfl) (hst:(assignEach es X.env).findIdx? (·.1)=none:=by rfl):PG X (.Tuple es k pos) (gTup K n t):=by
 subst h;exact y6o hc hp hn hst
end
end L2
namespace L2
open PySem PySem.Spec PySem.W PyProof.Rows
section
variable {X:Cx}{e:Expr}{te:TE}{a:Str}{j:Nat}{p1 p2 pos:Pos}
end
section
variable {X:Cx}{C W fI:Addr}{x:Str}{np apos cpos:Pos}{e1 e2:Expr}{ta:TA}
end
section
variable {X:Cx}{pins:List (Addr×Obj)}{σ:St}{H:Hp}{s:Shared}{h':Heap}
end
section
variable {X:Cx}{pins:List (Addr×Obj)}{σ:St}{H:Hp}{s:Shared}{C a:Addr}{f:Str}{v:Value}{y:V}
variable {o value:Expr}{ta tv:TE}{pos pos':Pos}
end
end L2
namespace L2
open PySem PySem.Spec PySem.W PyProof.Rows
section
variable {prog:Program}{w:World}{A:Around}{E:Value→Shared→Prop}{h:Heap}{g:Array GenState}{d:Drawn}{t:Nat}{os:OsState}
variable {nm q:Str}{C N:Addr}{bs bm:List Value}{hdct:Bool}{sn:List Str}{sub:List Value}{ab:Bool}{col:Option Bool}{dd:Option Addr}{k0 k1 k2 k3 k5:Option Value}{mN:Str→Option Value}{fI:Addr}{oI:Obj}
end
section
variable {X:Cx}{pins:List (Addr×Obj)}{σ:St}{H:Hp}{s:Shared}
variable {CX:CXT}{k:Nat}{C W fI:Addr}{fd:FuncData}{ps:List Str}{sp:Sp}{E:XK}{x:Str}{np pos:Pos}{e:Expr}{es:List Expr}{t:TA}
end
section
variable {X:Cx}{fx cx n:Str}{fp cpos xpos hp hpos tpos:Pos}{e:Expr}{es:List Expr}{ta:TA}{k j:Nat}{ps:List Str}{sp:Sp}{W:Addr}{st0:Stmt}{ts:TS}
end
section
variable {X:Cx}{K:Frag}
end
section
variable {prog:Program}{w:World}{A:Around}{E:Value→Shared→Prop}{h:Heap}{gn:Array GenState}{dr:Drawn}{tt:Nat}{os:OsState}{K:Frag}{x D:Addr}{ox od:Obj}{name:Str}
end
section
variable {X:Cx}{e:Expr}{f:Str}{pos:Pos}{ta:TE}{K:Frag}
end
end L2
namespace L2
open PySem PySem.Spec PyProof.Rows
section
variable {prog:Program}{w:World}{A:Around}{E:Value→Shared→Prop}{s:Shared}
end
section
variable {X:Cx}{K:PySem.W.Frag}
def Itq (K:PySem.W.Frag) (b:Bool) (a:Addr):It:=match b with
 |true=>Itl K a
 |false=>Itt K a
theorem z3s (K:PySem.W.Frag) (b:Bool) (a:Addr) (xs:List V):z6r (Itq K b a) xs.length (fun H=>SqB b K H a xs) (fun i H x H'=>H'=H∧xs[i]? =some x):=by
 cases b with
 |true=>exact z0z K a xs
 |false=>exact z2H K a xs
def iSq (K:PySem.W.Frag) (tl:TE):TI:=fun σ H R=>tl σ H fun x H1=>∃a b xs,x= .ref a∧SqB b K H1 a xs∧R (Itq K b a) H1
theorem z5g {tg l:Expr}{tl:TE} (h:X.K=K) (hl:PE X l tl):PI X tg l (iSq K tl):=by
 subst h
 intro pins s σ H R I q
 refine thn (hl pins s σ H _ I q) fun v s1 ⟨x,H1,I1,r1,a,b,xs,e,hq,q1⟩=>?_
 subst e
 cases r1
 cases b with
 |true=>
  obtain⟨its,rv,p,hz⟩:=I1.list hq
  refine wpAny_pyIter_list p.isList ⟨s1.heap.objs.size,[s1.heap.objs.size],_,_,H1,rfl,I1.kept (t':=s1.toks) fun b o e=>q0d _ e,z6v a _,⟨_,q0s _ rfl,rfl,rfl⟩,fun b hb=>?_,q1⟩
  have e:b=s1.heap.objs.size:=by simpa using hb
  subst e
  exact I1.fpOk (q0j _) (I1.hok.fresh (q0j _))
 |false=>
  obtain⟨its,rv,p,hz⟩:=I1.tuple hq
  refine wpAny_pyIter_tuple (show s1.heap.IsTuple a its.toArray from p) ⟨s1.heap.objs.size,[s1.heap.objs.size],_,_,H1,rfl,I1.kept (t':=s1.toks) fun b o e=>q0d _ e,z4X a _,⟨_,q0s _ rfl,rfl,rfl⟩,fun b hb=>?_,q1⟩
  have e:b=s1.heap.objs.size:=by simpa using hb
  subst e
  exact I1.fpOk (q0j _) (I1.hok.fresh (q0j _))
def rSlA (K:PySem.W.Frag):V→Option Int→Option Int→Hp→VK→Prop:=fun x lo hi H Q=>rSlL K x lo hi H Q∨rSlT K x lo hi H Q
theorem z7D (h:X.K=K):SlR X (rSlA K):=by subst h;exact SlR.or y0M y3Z
def rIxA (K:PySem.W.Frag):R2:=fun x y H Q=>rIxL K x y H Q∨rIxT K x y H Q
theorem z6e (h:X.K=K):IxR X (rIxA K):=by subst h;exact IxR.or y1O y4n
theorem y5a (h:X.K=K) (hu:X.A.units+64<cLine):OpR X (compareOp .Eq) (rEqD K):=by subst h;exact y6z hu
theorem z4s (h:X.K=K) (hu:X.A.units+64<cLine):OpR X (compareOp .NotEq) (rNeD K):=by subst h;exact y6w hu
end
theorem SqB.same {b:Bool}{K:PySem.W.Frag}{H H':Hp}{a:Addr}{xs:List V} (g:Same H H') (h:SqB b K H a xs):SqB b K H' a xs:=by
 cases b with
 |true=>exact SqL.same g h
 |false=>exact SqT.same g h
theorem z0j {n:Nat} (h:n≤16777216):n≤sizeLine:=by rw[sizeLine_eq];exact h
theorem z2n {n:Nat} (h:n<16777216):n<sizeLine:=by rw[sizeLine_eq];exact h
end L2
namespace L2
open PySem PySem.Spec PyProof.Rows
section
variable {X:Cx}{tg iter elt:Expr}{ifs:List Expr}{scope:Scope}{pos:Pos}{cl:List (Str×Addr)}{Nc:List Str}{fr:List (Option Nat)}{wi:TI}{g:TG}{tt:TT}{te:TE}
theorem z3u {y:Str}{py spos:Pos}{jj:Nat} (hsw:swapsWith (.ListComp elt [⟨tg,iter,ifs,0⟩] scope pos) (some (.Name y py)) spos.line X.env=pure true) (hN:X.N.Nodup) (hj:X.N[jj]? =some y) (hx:Loc X.env.scope y) (hf:X.fn y=true∨X.env.scope.names.lookup y=some .local)
 (hc:X.calm=true) (hi:PI X tg iter wi) (hcl:closureFor scope X.env=pure cl) (hcell:∀y∈scope.names,y.2≠ .cell) (hk:scope.kind= .function) (hnm:∀y∈scope.names,y.2= .local →scope.names.lookup y.1=some .local)
 (hall:(scope.names.all fun p=>p.2 != .free || (cl.lookup p.1).isSome)=true) (cc:CapC X.env cl) (cn:CapN X scope cl Nc fr)
 (hg:∀C s2 H2 fp,PG (z2q X Nc scope cl C s2 H2 fp) tg g) (ht:∀C s2 H2 fp,PTs (z2q X Nc scope cl C s2 H2 fp) ifs tt) (he:∀C s2 H2 fp,PE (z2q X Nc scope cl C s2 H2 fp) elt te)
 (hs:∀x,foldedSetIterable iter X.env x=pure x:=by intro _;rfl):PS X (.Assign [.Name y py] (.ListComp elt [⟨tg,iter,ifs,0⟩] scope pos) spos) (tAsg (y5Z fr wi g tt te) (z9X jj)):=by
 intro pins s σ H Ds I h
 rw[exec_Assign_Name_used _ _ _ _ hsw]
 refine wpAny_bind (wpAny_standAt (wpAny_bind ?_))
 show wpAny _ X.A (do let _ ←comprehension (.ListComp elt [⟨tg,iter,ifs,0⟩] scope pos) scope X.env _ (newList []) false (eval iter X.env) (some (assign (.Name y py) X.env))) _ _ s
 refine wpAny_bind (wpAny_mono (wpAny_comprehension_free (use:=some (assign (.Name y py) X.env)) (Q:=fun _ s'=>SP X pins Ds .next s') rfl hs hcl hk hnm ?_) (fun _ s' hq=>wpAny_pure (wpAny_pure hq)) fun _ _ e=>e)
 refine wpAny_mono (hi pins s σ H _ I h) (fun xv s1 h1=>wpAny_mono h1 (fun itv s2 h2=>?_) fun _ _ e=>e) fun _ _ e=>e
 obtain⟨it,fp,tn,J,H2,rfl,I2,T,st2,f2,q2⟩:=h2
 obtain⟨W,⟨m0,w0⟩,turn⟩:=q2 s2.heap.objs.size (I2.hok.fresh (q0j _))
 refine wpAny_newObj_type (wpAny_newFunctionEnv hcell (by intro y hy;simp at hy) (fun h4 ns4 sb4=>?_) hk)
 dsimp only at ns4 sb4 ⊢
 generalize hD:s2.heap.objs.size=D at*
 generalize hL:s2.heap.push {cls:= .type "list",dict:=none,data:= .seq ([]:List Value).toArray}=hl at ns4 sb4 ⊢
 have hlsz:hl.objs.size=D+1:=by rw[←hL,q1u,hD]
 rw[hlsz] at ns4 sb4 ⊢
 have DC:D≠D+1:=q0w (Nat.lt_succ_self _)
 have low:∀b o,s2.heap.get? b=some o→b<D:=fun b o e=>by rw[←hD];exact q0q e
 have kp:∀b o,s2.heap.get? b=some o→h4.get? b=some o:=fun b o e=>by
  have z:=low b o e
  refine sb4.extBut b o (q0w (q1d z)) (q0d _ ?_)
  rw[←hL]
  exact q0d _ e
 have hD4:h4.get? D=some {cls:= .type "list",dict:=none,data:= .seq ([]:List Value).toArray}:=by
  refine sb4.extBut D _ DC (q0d _ ?_)
  rw[←hL,←hD]
  exact q0s _ rfl
 have hn:H2 D=none:=by rw[←hD];exact I2.hok.fresh (q0j _)
 have hnC:H2 (D+1)=none:=I2.hok.fresh (by rw[hD];exact q1v _)
 let Y:=z2q X Nc scope cl (D+1) s2 H2 fp
 have ixv:∀b∈fp,b<D:=fun b hb=>by
  obtain⟨o,e,_⟩:=T.obj 0 _ st2 b hb
  exact low b o e
 have okY:Y.Ok:=by
  refine⟨I2.ok.mod,?_,I2.ok.glob,I2.ok.blt,?_,?_,?_,?_,fun _=>I2.ok.hd hc,I2.ok.frames,.inl rfl,?_,I2.bs,?_,?_,?_,I2.stack,I2.stkFree⟩
  ·exact hk
  ·show s2.heap.objs.size≤D+1
   lia
  ·intro x y c e1 e2
   exact I2.ok.inj x y c (cc.mem x c e1) (cc.mem y c e2)
  ·intro x hx
   exact z2M hcell hall x hx
  ·intro x c e
   cases e
  ·intro b hb
   refine⟨fun z=>?_,fun x c e z=>?_⟩
   ·exact absurd z (q0w (q1d (ixv b hb)))
   ·exact (f2 b hb).2.2.2.2.1 x c (cc.mem x c e) z
  ·exact q0p I2.ok.bsz I2.sz
  ·intro b o e hb
   have z:=(f2 b hb).2.2.2.1
   rcases z with z|z
   ·exact I2.ok.noex b o e z
   ·exact absurd (q0N (q0q (I2.ok.bs b o e).1) z) (Nat.lt_irrefl _)
  ·intro b hb z
   have e2:=q0r.mp (I2.stkSub b z)
   rcases e2 with e2|e2
   ·exact (f2 b hb).2.1 e2
   ·exact (f2 b hb).2.2.1 e2
 have IY:Inv Y [] (z0H fr σ) (upd H2 D (.lst [])) {s2 with heap:=h4,toks:=s2.toks+([]:List (Str×Value)).length}:=by
  refine⟨okY,rfl,I2.bare,⟨fun b o e n _ _=>kp b o e,fun b o e n _ _=>⟨o.slots,kp b o e⟩,fun b o e n _=>?_,fun b o e _=>⟨o,kp b o e⟩,fun b xs e=>?_,fun b o u e=>?_,fun b ps e=>⟨#[],?_⟩⟩,?_,fun x c e=>?_,?_,fun x c e=>?_,fun p hp=>?_,fun b u e=>?_,?_⟩
  ·rw[z0l (q0w (low b o e))];exact n
  ·rw[z0l (z0h e hn)];exact e
  ·rw[z0l (z0h e hn)];exact e
  ·rw[z0l (z0h e hn),show H2 b=_ from e];simp
  ·refine⟨_,ns4,fun j x v e1 e2 e3=>?_⟩
   have e2':(fr.map fun o=>o.bind fun k=>(σ[k]?).join)[j]? =some (some v):=e2
   rw[q0h] at e2'
   obtain⟨o,ho,hv⟩:=q0v.mp e2'
   cases o with
   |none=>cases hv
   |some k=>
    obtain⟨c1,c2,c3,c4⟩:=cn.at j x k e1 ho
    have hσ:σ[k]? =some (some v):=by
        have hv':(σ[k]?).join =some v:=hv
        cases z:σ[k]? with
        |none=>rw[z] at hv';cases hv'
        |some w'=>rw[z] at hv';exact congrArg some hv'
    obtain⟨m,hm,hlk⟩:=I2.loc
    obtain⟨u,r,lk⟩:=hlk k x v c1 hσ (.inr (.inl c2))
    refine⟨u,r,.inr ⟨.inl c4,?_⟩⟩
    rcases lk with⟨z,_⟩|⟨_,c,ec,oc,hoc,dc⟩
    ·rw[c2] at z;cases z
    ·obtain⟨c',ec'⟩:=Option.isSome_iff_exists.mp c3
     have:=cc.mem x c' ec'
     rw[ec] at this;cases this
     exact⟨c,ec',oc,kp c oc hoc,dc⟩
  ·obtain⟨v,oc,hoc,dc⟩:=I2.cell x c (cc.mem x c e)
   exact⟨v,oc,kp c oc hoc,dc⟩
  ·show upd H2 D (.lst []) (D+1)=none
   rw[z0l (Ne.symm DC)];exact hnC
  ·obtain⟨v,oc,hoc,dc⟩:=I2.cell x c (cc.mem x c e)
   rw[z0l (q0w (low c oc hoc))]
   exact I2.freeC x c (cc.mem x c e)
  ·simp[Y,z2q] at hp
  ·by_cases hb:b=D
   ·subst hb
    rw[z0d] at e;cases e
    exact⟨q0S _,[],_,.nil,hD4⟩
   ·rw[z0l hb] at e
    exact (I2.hok b u e).stay (fun c v _ q=>kp c v q) (fun c q=>by rw[z0l (z0h q hn)];exact q) fun c xs q=>by rw[z0l (z0h q hn)];exact q
  ·show (fr.map _).length =Nc.length
   rw[q0a];exact cn.length
 have fY:∀{H':Hp},(∀b∈fp,H' b=none)→∀b∈fp,y2C Y [] H' b:=fun {H'} hn' b hb=>by
  refine⟨hn' b hb,fun z=>?_,fun z=>?_,.inl hb,fun x c e z=>?_,fun p hp=>?_⟩
  ·exact absurd z (q0w (q1d (ixv b hb)))
  ·exact okY.exfs b hb z
  ·exact (f2 b hb).2.2.2.2.1 x c (cc.mem x c e) z
  ·simp[Y,z2q] at hp
 have st4:tn 0 h4:=T.keep _ _ _ st2 fun b hb o e=>kp b o e
 have fr4:∀b∈fp,upd H2 D (.lst []) b=none:=fun b hb=>by
  rw[z0l (q0w (ixv b hb))]
  exact (f2 b hb).1
 have loop:∀s3:Shared,s3={s2 with heap:=h4,toks:=s2.toks+([]:List (Str×Value)).length}→
  codeAny (model X.prog X.w) X.A (.compLoop (.ListComp elt [⟨tg,iter,ifs,0⟩] scope pos) 0 (.ref it) (.ref D) (compEnvC scope cl (D+1) X.env)) (compPost (model X.prog X.w) X.A X.xe (some (assign (.Name y py) X.env)) (fun _ s'=>SP X pins Ds .next s') (.ref D) (D+1)) s3:=by
  rintro s3 rfl
  refine codeAny_loop rfl (fun n s'=>∃i σ' H',Inv Y [] σ' H' s'∧tn i s'.heap∧(∀b∈fp,H' b=none)∧W i n σ' H') (fun n s5 hI=>?_) m0 ⟨0,_,_,IY,st4,fr4,w0⟩
  obtain⟨i,σ5,H5,I5,st5,fr5,w5⟩:=hI
  show wpAny _ X.A ((compTurn (.ListComp elt [⟨tg,iter,ifs,0⟩] scope pos) 0 (.ref it) (.ref D) (compEnvC scope cl (D+1) X.env)).onRaise (fun x=>do noteFrame x (compEnvC scope cl (D+1) X.env);theTreesLotGoes x)) _ _ s5
  refine wpAny_noted ?_
  rw[compTurn_list]
  refine wpAny_bind (wpAny_standAt (wpAny_bind ?_))
  rcases turn i n σ5 H5 w5 with⟨stop,qn⟩|⟨go,step⟩
  ·refine wpAny_mono (T.done Y rfl rfl rfl rfl i [] s5 σ5 H5 (fun _ _=>False) I5 (fY fr5) st5 stop) (fun r s6 ⟨hr,I6⟩=>?_) fun _ _ z=>z.elim
   subst hr
   refine wpAny_pure ?_
   obtain⟨m6,hm6,_⟩:=id I6.loc
   have sb7:Heap.SameBut (D+1) s6.heap s6.heap:=Heap.SameBut.refl ..
   have un:Un (frs X.stack) fp H2 H5 s2.heap s6.heap:=by
        have b6:=I6.base
        have nc:∀b o,s2.heap.get? b=some o→b≠D+1:=fun b o e=>q0w (q1d (low b o e))
        refine⟨fun b o e n1 n2 n3=>(sb7.2 b (nc b o e)).trans (b6.keep b o e n1 n2 n3),fun b o e n1 n2 n3=>?_,b6.free,fun b o e n3=>?_,b6.tups,b6.frzs,b6.tbls⟩
        ·obtain⟨sl,z⟩:=b6.slot b o e n1 n2 n3
         exact⟨sl,(sb7.2 b (nc b o e)).trans z⟩
        ·obtain⟨o',z⟩:=b6.there b o e n3
         exact⟨o',(sb7.2 b (nc b o e)).trans z⟩
   have hok7:HOk X.prog X.w H5 s6.heap:=fun b u e=>by
        refine (I6.hok b u e).stay (fun c v hc' q=>(sb7.2 c fun z=>?_).trans q) (fun _ q=>q) fun _ _ q=>q
        have fC:H5 (D+1)=none:=I6.free
        subst z
        rcases hc' with z|z
        ·rw[←z,fC] at e;cases e
        ·rw[fC] at z;cases z
   have IX:=I2.call' (s':={s6 with heap:=s6.heap}) (ch:=fp) I6.os un hok7 I6.bare fun b hb=>⟨(f2 b hb).2.2.2.1,(f2 b hb).2.1,(f2 b hb).2.2.2.2.1,(f2 b hb).2.2.2.2.2⟩
   have lx:X.env.locals<D:=by
        obtain⟨m,⟨o,_,_,ho,_⟩,_⟩:=I2.loc
        exact low _ o ho
   refine wpAny_assign_Name (z6x IX hN hj hx (show RelV (.ref D) (.ref D) from rfl) (fun s7 I7 ⟨a7,sa7,ha7⟩=>?_) hf)
   have al:a7<D:=by
        rcases ha7 with z|z
        ·rw[z];exact lx
        ·obtain⟨v,o,ho,_⟩:=I2.cell y a7 z
         exact low _ o ho
   refine⟨m6,hm6.sameBut sa7 (Ne.symm (q0w (q1d al))),fun h8 sb8=>?_⟩
   have I8:Inv X pins (σ.set jj (some (.ref D))) H5 {s7 with heap:=h8}:=I7.turned (t':=s7.toks) (it:=D+1) (fun b o hb e=>(sb8.2 b hb).trans e) I6.free (Ne.symm (q0w (q1d lx))) (.inr (by
    have:=I2.sz
    rw[hD] at this
    exact Nat.le_succ_of_le this)) (fun x c e z=>by
    obtain⟨v,o,ho,_⟩:=I2.cell x c e
    have:=low _ o ho
    rw[z] at this
    exact absurd this (Nat.not_lt.mpr (q1v _))) (fun p hp z=>by
    have:=low _ _ (I2.pin p hp).1
    rw[z] at this
    exact absurd this (Nat.not_lt.mpr (q1v _)))
   exact⟨_,H5,I8,qn⟩
  ·refine wpAny_mono (T.item Y rfl rfl rfl rfl i [] s5 σ5 H5 (fun _ _=>False) I5 (fY fr5) st5 go) (fun r s6 ⟨u,hr,h6⟩=>?_) fun _ _ z=>z.elim
   subst hr
   refine wpAny_bind (wpAny_mono h6 (fun _ s7 ⟨x,H7,I7,r7,y7,st7,fr7⟩=>?_) fun _ _ z=>z.elim)
   have I7':=I7.pinned (fY fr7) (T.obj _ _ st7)
   refine wpAny_bind (wpAny_mono (hg _ _ _ _ _ s7 σ5 H7 x u _ I7' r7 (step x H7 y7)) (fun _ s8 ⟨σ8,H8,I8,q8⟩=>?_) fun _ _ z=>z.elim)
   have again:∀{σ':St}{H':Hp}{s':Shared}{k:Nat},Inv Y ([]++z5f fp s7.heap) σ' H' s'→W (i+1) k σ' H'→∃i' σ'' H'',Inv Y [] σ'' H'' s'∧tn i' s'.heap∧(∀b∈fp,H'' b=none)∧W i' k σ'' H'':=fun {σ' H' s' k} I' w'=>by
        refine⟨i+1,σ',H',I'.unpinned,T.keep _ _ _ st7 fun b hb o e=>(I'.pin (b,o) (q0O _ (q0O _ (z1H hb e)))).1,fun b hb=>?_,w'⟩
        obtain⟨o,e,d⟩:=T.obj _ _ st7 b hb
        exact (I'.pin (b,o) (q0O _ (q0O _ (z1H hb e)))).2.1
   refine wpAny_bind (wpAny_mono (ht _ _ _ _ _ s8 σ8 H8 _ I8 q8) (fun ok s9 ⟨H9,I9,q9⟩=>?_) fun _ _ z=>z.elim)
   cases ok with
   |false=>
    obtain⟨m',hm',w'⟩:=q9
    exact wpAny_pure ⟨rfl,m',hm',again I9 w'⟩
   |true=>
    refine wpAny_bind (wpAny_bind (wpAny_mono (he _ _ _ _ _ s9 σ8 H9 _ I9 q9) (fun ev s10 ⟨v,H10,I10,r10,acc,m',hacc,hlen,hm',w'⟩=>?_) fun _ _ z=>z.elim))
    refine wpAny_bind (wpAny_mono (z1j (X:=Y) _ s10 σ8 H10 (.ref D) [v] (.ref D) [ev] (fun r H'=>r= .non ∧H'=upd H10 D (.lst (acc++[v]))) I10 rfl (.cons r10 .nil) ⟨D,acc,v,rfl,rfl,hacc,hlen,rfl,rfl⟩) (fun _ s11 ⟨_,H11,I11,_,_,e11⟩=>?_) fun _ _ z=>z.elim)
    subst e11
    exact wpAny_pure (wpAny_pure ⟨rfl,m',hm',again I11 w'⟩)
 exact codeAny_compStart_list (loop _ rfl) (T.self _ _ _ _ _ st4 (loop _ rfl))
end
end L2
set_option maxHeartbeats 4000000
namespace L2
open PySem PySem.Spec PyProof.Rows
namespace Fr
open Builtin.Int (intBits)
structure Low (x y:Int):Prop where
 pos:0<y
 one:Int.gcd x y=1
theorem turn {a0 b0 a b:Int} (h:Int.gcd a b=Int.gcd a0 b0):Int.gcd b (a.fmod b)=Int.gcd a0 b0:=by
 rw[Int.fmod_def,Int.gcd_sub_mul_left_right,Int.gcd_comm b a]
 exact h
theorem less {a b:Int} (h:b≠0):(a.fmod b).natAbs <b.natAbs:=by
 rcases (by lia:0<b∨b<0) with p|p
 ·have h1:=Int.fmod_nonneg_of_pos a p
  have h2:=Int.fmod_lt_of_pos a p
  lia
 ·have e:a.fmod b= -((-a).fmod (-b)):=by
   rw[Int.fmod_def,Int.fmod_def,Int.neg_fdiv_neg]
   rw[Int.neg_mul]
   lia
  have h1:=Int.fmod_nonneg_of_pos (-a) (show 0< -b by lia)
  have h2:=Int.fmod_lt_of_pos (-a) (show 0< -b by lia)
  lia
theorem y5L {a b a0 b0:Int} (h:Int.gcd a b=Int.gcd a0 b0) (hb:b=0):(if a<0 then -a else a)=(Int.gcd a0 b0:Int):=by
 rw[←h,hb,Int.gcd_zero]
 split<;>lia
theorem y6F {t b s:Int} (hb:b≠0) (hs:s=if b<0 then -(Int.gcd t b:Int) else (Int.gcd t b:Int)):
 s≠0∧Low (t.fdiv s) (b.fdiv s)∧t.fdiv s*b=t*b.fdiv s∧(t.fdiv s).natAbs ≤t.natAbs∧(b.fdiv s).natAbs ≤b.natAbs:=by
 have g0:0<Int.gcd t b:=Int.gcd_pos_of_ne_zero_right t hb
 have g1:(0:Int)<(Int.gcd t b:Int):=by lia
 obtain⟨t',ht⟩:=q1j t b
 obtain⟨b',hb'⟩:=q1I t b
 have co:Int.gcd t' b'=1:=by
  have h:=Int.gcd_ediv_gcd_ediv_gcd (i:=t) (j:=b) g0
  have e1:t/(Int.gcd t b:Int)=t':=by
   conv=>lhs;lhs;rw[ht]
   exact Int.mul_ediv_cancel_left _ (by lia)
  have e2:b/(Int.gcd t b:Int)=b':=by
   conv=>lhs;lhs;rw[hb']
   exact Int.mul_ediv_cancel_left _ (by lia)
  rw[e1,e2] at h
  exact h
 generalize hg:(Int.gcd t b:Int)=g at*
 have sg:b<0↔b'<0:=by
  constructor
  ·intro h
   rcases (by lia:b'<0∨0≤b') with q|q
   ·exact q
   ·have:=q0U (q1h g1) q
    lia
  ·intro h
   have:=q1D g1 h
   lia
 have b0:b'≠0:=fun z=>hb (by rw[hb',z,q0M])
 have fd:∀z:Int,(g*z).fdiv g=z:=fun z=>Int.mul_fdiv_cancel_left z (by lia)
 have fn:∀z:Int,(g*z).fdiv (-g)= -z:=fun z=>by
  have e:g*z= -g* -z:=by rw[Int.neg_mul_neg]
  rw[e]
  exact Int.mul_fdiv_cancel_left (-z) (by lia)
 have na:∀z:Int,z.natAbs≤(g*z).natAbs :=fun z=>by
  rw[Int.natAbs_mul]
  exact Nat.le_mul_of_pos_left _ (by lia)
 by_cases h:b<0
 ·rw[if_pos h] at hs
  rw[hs]
  refine⟨by lia,?_⟩
  have e1:t.fdiv (-g)= -t':=by rw[ht];exact fn t'
  have e2:b.fdiv (-g)= -b':=by rw[hb'];exact fn b'
  rw[e1,e2]
  refine⟨⟨by have:=sg.mp h;lia,by rw[Int.gcd_neg,Int.neg_gcd];exact co⟩,?_,?_,?_⟩
  ·rw[hb',ht,Int.neg_mul,Int.mul_neg,Int.mul_assoc,Int.mul_left_comm t' g b']
  ·have:=na t'
   rw[←ht] at this
   lia
  ·have:=na b'
   rw[←hb'] at this
   lia
 ·rw[if_neg h] at hs
  rw[hs]
  refine⟨by lia,?_⟩
  have e1:t.fdiv g=t':=by rw[ht];exact fd t'
  have e2:b.fdiv g=b':=by rw[hb'];exact fd b'
  rw[e1,e2]
  refine⟨⟨by have:¬b'<0:=fun z=>h (sg.mpr z);lia,co⟩,?_,?_,?_⟩
  ·rw[hb',ht,Int.mul_assoc,Int.mul_left_comm t' g b']
  ·have:=na t'
   rw[←ht] at this
   exact this
  ·have:=na b'
   rw[←hb'] at this
   exact this
end Fr
end L2
namespace L2
open PySem PySem.Spec PyProof.Rows
namespace Wl
open Builtin.Int (intBits)
def z1J (rs:List Int):Nat:=rs.foldl (fun (g:Nat) n=>Int.gcd (g:Int) n) 0
theorem z3Q:∀(rs:List Int) (g0:Nat),(((rs.foldl (fun (g:Nat) n=>Int.gcd (g:Int) n) g0:Nat):Int)∣(g0:Int))∧∀n∈rs,((rs.foldl (fun (g:Nat) n=>Int.gcd (g:Int) n) g0:Nat):Int)∣n
 |[],g0=>⟨Int.dvd_refl _,fun n h=>by simp at h⟩
 |m::r,g0=>by
  obtain⟨h1,h2⟩:=z3Q r (Int.gcd (g0:Int) m)
  rw[q1G]
  refine⟨Int.dvd_trans h1 (q1j _ _),fun n hn=>?_⟩
  rcases q0r.mp hn with rfl|hn
  ·exact Int.dvd_trans h1 (q1I _ _)
  ·exact h2 n hn
theorem z3P {rs:List Int}{n:Int} (h:n∈rs):(z1J rs:Int)∣n:=(z3Q rs 0).2 n h
theorem z1W {rs:List Int} (h:∃n∈rs,n≠0):0<z1J rs:=by
 obtain⟨n,hn,n0⟩:=h
 have d:=z3P hn
 rcases Nat.eq_zero_or_pos (z1J rs) with z|z
 ·rw[z] at d
  exact absurd (Int.zero_dvd.mp d) n0
 ·exact z
theorem z7e (rs:List Int) (n:Int):z1J (rs++[n])=Int.gcd (z1J rs:Int) n:=by
 unfold z1J
 rw[List.foldl_append];rfl
theorem z9e {d:Int}:∀(rs:List Int) (g0:Nat),d∣(g0:Int)→(∀n∈rs,d∣n)→d∣((rs.foldl (fun (g:Nat) n=>Int.gcd (g:Int) n) g0:Nat):Int)
 |[],g0,h,_=>h
 |m::r,g0,h,hr=>z9e r _ (Int.dvd_coe_gcd h (hr m List.mem_cons_self)) fun n hn=>hr n (List.mem_cons_of_mem _ hn)
theorem y3G {rs:List Int}{d:Int} (h:∀n∈rs,d∣n):d∣(z1J rs:Int):=z9e rs 0 (Int.dvd_zero _) h
def z0N:List Int→Int
 |[]=>0
 |n::r=>if n=0 then z0N r else n
theorem z5l:∀(rs:List Int) (n:Int),z0N (rs++[n])=if z0N rs=0 then n else z0N rs
 |[],n=>by
  show (if n=0 then (0:Int) else n)=if (0:Int)=0 then n else 0
  rw[if_pos rfl]
  split
  ·rename_i h;exact h.symm
  ·rfl
 |m::r,n=>by
  show (if m=0 then z0N (r++[n]) else m)=if (if m=0 then z0N r else m)=0 then n else (if m=0 then z0N r else m)
  by_cases h:m=0
  ·rw[if_pos h,if_pos h];exact z5l r n
  ·rw[if_neg h,if_neg h,if_neg h]
theorem z6d {rs:List Int} (h:∃n∈rs,n≠0):z0N rs≠0:=by
 induction rs with
 |nil=>obtain⟨n,hn,_⟩:=h;simp at hn
 |cons m r ih=>
  show (if m=0 then z0N r else m)≠0
  by_cases hm:m=0
  ·rw[if_pos hm]
   obtain⟨n,hn,n0⟩:=h
   rcases q0r.mp hn with rfl|hn
   ·exact absurd hm n0
   ·exact ih ⟨n,hn,n0⟩
  ·rw[if_neg hm];exact hm
def byL (rs:List Int):Int:=if z0N rs<0 then -(z1J rs:Int) else (z1J rs:Int)
def z0n (rs:List Int):List Int:=rs.map fun n=>n.fdiv (byL rs)
theorem z2Q {rs:List Int} (h:∃n∈rs,n≠0):byL rs≠0:=by
 have:=z1W h
 unfold byL
 split<;>lia
theorem z2D {rs:List Int}{n:Int} (h:n∈rs):byL rs∣n:=by
 unfold byL
 split
 ·exact Int.neg_dvd.mpr (z3P h)
 ·exact z3P h
theorem fdiv_mul {n s:Int} (h:s∣n):n.fdiv s*s=n:=Int.fdiv_mul_cancel h
theorem fdiv_ne {n s:Int} (h:s∣n) (n0:n≠0):n.fdiv s≠0:=fun z=>by
 have:=fdiv_mul h
 rw[z,Int.zero_mul] at this
 exact n0 this.symm
theorem z1Z {n s:Int} (h:s∣n) (s0:s≠0):(n.fdiv s).natAbs ≤n.natAbs:=by
 have e:=congrArg Int.natAbs (fdiv_mul h)
 rw[Int.natAbs_mul] at e
 have:0<s.natAbs:=by lia
 rw[←e]
 exact Nat.le_mul_of_pos_right _ this
theorem z9j {rs:List Int}{k:Nat} (h:∃n∈rs,n≠0) (hb:∀n∈rs,intBits n≤k):intBits (byL rs)≤k:=by
 obtain⟨n,hn,n0⟩:=h
 refine intBits_le_of_natAbs (y:=n) ?_ (hb n hn)
 obtain⟨m,e⟩:=z2D hn
 have m0:m≠0:=fun z=>n0 (by rw[e,z,q0M])
 have e':=congrArg Int.natAbs e
 rw[Int.natAbs_mul] at e'
 rw[e']
 exact Nat.le_mul_of_pos_right _ (by lia)
end Wl
end L2
namespace L2
open PySem PySem.Spec PyProof.Rows
namespace Sd
open Builtin.Int (intBits)
open Fr
end Sd
theorem z1F {xs:List V}{v:V}:z8i (xs++[v]) none (some (-1))=xs:=by
 have e:HT.sIx (xs++[v]).length (xs++[v]).length (some (-1))=xs.length:=by
  simp only[HT.sIx,q0n,q0Y]
  split<;>lia
 unfold z8i
 rw[HT.sIx_none,e,List.drop_zero,Nat.sub_zero]
 simp
theorem y2r {xs:List V}{v:V}:¬(HT.sIx (xs++[v]).length 0 none=0∧HT.sIx (xs++[v]).length (xs++[v]).length (some (-1))=(xs++[v]).length):=by
 rintro⟨_,h⟩
 have e:HT.sIx (xs++[v]).length (xs++[v]).length (some (-1))=xs.length:=by
  simp only[HT.sIx,q0n,q0Y]
  split<;>lia
 rw[e] at h
 simp at h
end L2
set_option maxHeartbeats 1000000
namespace L2
open PySem PySem.Spec PySem.W PyProof.Rows
section
variable {X:Cx}{K:Frag}
open Classical in
theorem z6g {pins:List (Addr×Obj)}{σ:St}{H:Hp}{s:Shared}{A:Around} (I:Inv X pins σ H s) (hu:A.units+9<cLine) {x:V}{v:Value}{e:Dt} (hx:IsD X.K H x e) (rx:RelV x v):∀{xs:List V}{ds:List Dt}{its:List Value},IsDs X.K H xs ds→Vals xs its→(∀d∈ds,Dt.ok 9 d e=true)→
 ∃f:Value→Bool,(∀w∈its,SeqAt.EqAt A s w v (f w))∧its.any f=ds.any fun d=>Dt.eqb d e:=by
 intro xs ds its hd rv ok
 have T:=told I 9 A hu
 have each:∀{xs:List V}{ds:List Dt}{its:List Value},IsDs X.K H xs ds→Vals xs its→(∀d∈ds,Dt.ok 9 d e=true)→(∀w∈its,∃d,(w,d)∈its.zip ds)∧∀w d,(w,d)∈its.zip ds→SeqAt.EqAt A s w v (Dt.eqb d e):=by
  intro xs ds its hd rv ok
  induction its generalizing xs ds with
  |nil=>exact⟨fun w h=>by simp at h,fun w d h=>by simp at h⟩
  |cons u us ih=>
   cases rv with
   |cons r1 r2=>
    cases hd with
    |cons h1 h2=>
     obtain⟨i1,i2⟩:=ih h2 r2 fun d hd=>ok d (q0f _ hd)
     refine⟨fun w hw=>?_,fun w d hw=>?_⟩
     ·rcases q0r.mp hw with rfl|hw
      ·exact⟨_,q0k⟩
      ·obtain⟨d,q⟩:=i1 w hw
       exact⟨d,q0f _ q⟩
     ·rcases q0r.mp hw with z|hw
      ·cases z
       exact T _ _ _ _ _ _ h1 hx r1 rx (ok _ q0k)
      ·exact i2 w d hw
 obtain⟨i1,i2⟩:=each hd rv ok
 have hlen:its.length=ds.length:=by
  have a:=rv.length
  have b:xs.length=ds.length:=by
   clear rv ok i1 i2 a
   induction ds generalizing xs with
   |nil=>cases hd;rfl
   |cons d r ih=>cases hd with|cons h1 h2=>rw[List.length_cons,List.length_cons,ih h2]
  lia
 refine⟨fun w=>decide (∃d,(w,d)∈its.zip ds∧Dt.eqb d e=true),fun w hw=>?_,?_⟩
 ·by_cases h:∃d,(w,d)∈its.zip ds∧Dt.eqb d e=true
  ·obtain⟨d,h1,h2⟩:=h
   have:=i2 w d h1
   rw[h2] at this
   dsimp only
   rw[decide_eq_true (⟨d,h1,h2⟩:∃d,(w,d)∈its.zip ds∧Dt.eqb d e=true)]
   exact this
  ·obtain⟨d,h1⟩:=i1 w hw
   have:=i2 w d h1
   have hf:Dt.eqb d e=false:=by
        cases z:Dt.eqb d e with
        |false=>rfl
        |true=>exact absurd ⟨d,h1,z⟩ h
   rw[hf] at this
   dsimp only
   rw[decide_eq_false h]
   exact this
 ·rw[q1r,q1c,q1c]
  constructor
  ·rintro⟨w,hw,h⟩
   obtain⟨d,h1,h2⟩:=of_decide_eq_true h
   exact⟨d,(q1o h1).2,h2⟩
  ·rintro⟨d,hd',h⟩
   obtain⟨i,hi,e1⟩:=q0I.mp hd'
   have hi2:i<its.length:=by lia
   have hm:(its[i],d)∈its.zip ds:=by
     refine q0I.mpr ⟨i,by rw[q0Q];lia,?_⟩
     rw[List.getElem_zip,e1]
   exact⟨its[i],q0A hi2,decide_eq_true ⟨d,hm,h⟩⟩
def rInD (K:Frag) (neg:Bool):R2:=fun x y H Q=>∃p xs ds e,y= .ref p∧SqA K H p xs∧IsDs K H xs ds∧IsD K H x e∧(∀d∈ds,Dt.ok 9 d e=true)∧Q (.bl (if neg then !(ds.any fun d=>Dt.eqb d e) else ds.any fun d=>Dt.eqb d e)) H
theorem y4Z (h:X.K=K) (hu:X.A.units+64<cLine):OpR X (compareOp .In) (rInD K false):=by
 subst h
 intro pins s σ H x y v u Q I rx ry h
 obtain⟨p,xs,ds,e,rfl,hq,hd,hx,ok,q⟩:=h
 cases ry
 rcases hq with hq|hq
 ·obtain⟨its,r,pl,hz⟩:=I.list hq
  obtain⟨f,f1,f2⟩:=z6g (A:=X.A.in1) I (by show X.A.units+1+9<cLine;lia) hx rx hd r ok
  refine SeqAt.in_listAt f pl.isList (fun w hw=>f1 w (by simpa using hw)) ⟨.bl _,H,I,rfl,?_⟩
  rw[show its.toArray.any f=its.any f by simp,f2]
  exact q
 ·obtain⟨its,r,pl,hz⟩:=I.tuple hq
  obtain⟨f,f1,f2⟩:=z6g (A:=X.A.in1) I (by show X.A.units+1+9<cLine;lia) hx rx hd r ok
  refine SeqAt.in_tupleAt f pl (fun w hw=>f1 w (by simpa using hw)) ⟨.bl _,H,I,rfl,?_⟩
  rw[show its.toArray.any f=its.any f by simp,f2]
  exact q
theorem z9y (h:X.K=K) (hu:X.A.units+64<cLine):OpR X (compareOp .NotIn) (rInD K true):=by
 subst h
 intro pins s σ H x y v u Q I rx ry h
 obtain⟨p,xs,ds,e,rfl,hq,hd,hx,ok,q⟩:=h
 cases ry
 rcases hq with hq|hq
 ·obtain⟨its,r,pl,hz⟩:=I.list hq
  obtain⟨f,f1,f2⟩:=z6g (A:=X.A.in1) I (by show X.A.units+1+9<cLine;lia) hx rx hd r ok
  refine SeqAt.notIn_listAt f pl.isList (fun w hw=>f1 w (by simpa using hw)) ⟨.bl _,H,I,rfl,?_⟩
  rw[show its.toArray.any f=its.any f by simp,f2]
  exact q
 ·obtain⟨its,r,pl,hz⟩:=I.tuple hq
  obtain⟨f,f1,f2⟩:=z6g (A:=X.A.in1) I (by show X.A.units+1+9<cLine;lia) hx rx hd r ok
  refine SeqAt.notIn_tupleAt f pl (fun w hw=>f1 w (by simpa using hw)) ⟨.bl _,H,I,rfl,?_⟩
  rw[show its.toArray.any f=its.any f by simp,f2]
  exact q
def y4N:V→List V→Hp→VK→Prop:=fun x vs H Q=>∃(l:Addr) (xs:List V) (y:V) (k:Int),x= .ref l∧vs=[.int k,y]∧H l=some (.lst xs)∧0≤k∧k≤xs.length∧xs.length<sizeLine∧Q .non (upd H l (.lst (xs.take k.toNat++y::xs.drop k.toNat)))
theorem y1T (l:Addr) (its:Array Value) (n:Nat) (k:Int) (t:Tok) (u:Value) (hfit:¬(!Builtin.List.listFitsIndex k)=true) (hsz:its.size≤sizeLine):
 Meets (Builtin.«list.insert» ⟨[.ref l,.int k t,u],[]⟩) (fun _ R s=>s.heap.get? l=some {cls:= .type "list",dict:=none,data:= .seq its n,slots:= #[]}∧R (.ok (.ret Value.none)) {s with heap:=s.heap.update l (Obj.mapSeq fun xs=>(xs.extract 0 (if k<0 then (k+(xs.size:Int)).toNat else min k.toNat xs.size)).push u++xs.extract (if k<0 then (k+(xs.size:Int)).toNat else min k.toNat xs.size)),toks:=s.toks}):=
 AutoListH.list_insert_list_int_val_1 l its n k t u hfit hsz
theorem y1F:MtM X "list.insert" y4N:=by
 intro pins s σ H x vs v us Q I rx rv h
 obtain⟨l,xs,y,k,rfl,rfl,hH,k0,hk,hz,q⟩:=h
 cases rx
 obtain⟨u1,u,rfl,r1,ru⟩:=y2H rv
 obtain⟨t,rfl⟩:=r1
 obtain⟨z,its,n,r,hl,e⟩:=I.lstM hH
 have hs:sizeLine=16777216:=sizeLine_eq
 have hfit:¬(!Builtin.List.listFitsIndex k)=true:=by
  rw[fitsIndex_both (show -(2^63)≤k by lia) (show k<2^63 by lia)]
  exact q0z
 have hsz:its.toArray.size≤sizeLine:=by rw[q0e];lia
 refine call_meets F.slot_list_insert ⟨_,e,rfl⟩ F.entry_list_insert (F.args_list_insert_3 _ _ _) (y1T l its.toArray n k t u hfit hsz) ⟨e,?_⟩
 have ek:(if k<0 then (k+(its.toArray.size:Int)).toNat else min k.toNat its.toArray.size)=k.toNat:=by
  rw[if_neg (by lia),q0e];lia
 refine⟨.non,_,I.lset (t':=s.toks) (f:=fun xs=>(xs.extract 0 (if k<0 then (k+(xs.size:Int)).toNat else min k.toNat xs.size)).push u++xs.extract (if k<0 then (k+(xs.size:Int)).toNat else min k.toNat xs.size)) (its':=its.take k.toNat++u::its.drop k.toNat) hH e ?_ ((r.take k.toNat).append (.cons ru (r.drop k.toNat))) ?_,rfl,q⟩
 ·rw[ek]
  apply Array.toList_inj.mp
  simp
  exact List.take_of_length_le (by rw[q1K];lia)
 ·rw[q0n,q0F,q0o,q1K];lia
end
end L2
set_option maxHeartbeats 4000000
namespace L2
open PySem PySem.Spec PyProof.Rows
open Builtin.Int (intBits)
def TsA (H:Hp) (as:List Addr) (ts:List (List Int)):Prop:=as.length=ts.length∧∀(i:Nat) (a:Addr) (t:List Int),as[i]? =some a→ts[i]? =some t→H a=some (.tup (t.map V.int))
theorem TsA.same {H H':Hp}{as:List Addr}{ts:List (List Int)} (g:Same H H') (h:TsA H as ts):TsA H' as ts:=⟨h.1,fun i a t e1 e2=>g _ _ (h.2 i a t e1 e2)⟩
theorem TsA.nil {H:Hp}:TsA H [] []:=⟨rfl,fun i a t e=>by simp at e⟩
theorem TsA.snoc {H:Hp}{as:List Addr}{ts:List (List Int)}{r:Addr}{t:List Int} (h:TsA H as ts) (e:H r=some (.tup (t.map V.int))):TsA H (as++[r]) (ts++[t]):=by
 refine⟨by simp[h.1],fun i a p e1 e2=>?_⟩
 by_cases hi:i<as.length
 ·rw[q0L hi] at e1
  rw[q0L (by rw[←h.1];exact hi)] at e2
  exact h.2 i a p e1 e2
 ·rw[q0D (by lia)] at e1
  rw[q0D (by rw[←h.1];lia),←h.1] at e2
  have hz:i - as.length=0:=by
   have:=(q0t.mp e1).1
   simp at this
   lia
  rw[hz] at e1 e2
  cases e1;cases e2
  exact e
def dtT (t:List Int):Dt:= .t (t.map Dt.i)
theorem TsA.isDs {K:PySem.W.Frag}{H:Hp}:∀{as:List Addr}{ts:List (List Int)},TsA H as ts→IsDs K H (as.map V.ref) (ts.map dtT)
 |[],[],_=> .nil
 |a::r,t::q,h=> .cons (.t (SqT.of (h.2 0 a t rfl rfl)) (z3O t)) (TsA.isDs ⟨by simpa using h.1,fun i b u e1 e2=>h.2 (i+1) b u (by simpa using e1) (by simpa using e2)⟩)
 |[],_::_,h=>by have:=h.1;simp at this
 |_::_,[],h=>by have:=h.1;simp at this
theorem y5A (a b:List Int):Dt.eqb (dtT a) (dtT b)=decide (a=b):=z9c a b
theorem ok_t (a b:List Int):Dt.ok 9 (dtT a) (dtT b)=true:=z3f 8 a b
theorem y5e {ts:List (List Int)}{b:List Int}:∀d∈ts.map dtT,Dt.ok 9 d (dtT b)=true:=fun d hd=>by
 obtain⟨t,_,rfl⟩:=q0g.mp hd
 exact ok_t t b
theorem y6Y (ts:List (List Int)) (b:List Int):((ts.map dtT).any fun d=>Dt.eqb d (dtT b))=decide (b∈ts):=by
 rw[q1r,q1c,decide_eq_true_eq]
 constructor
 ·rintro⟨d,hd,h⟩
  obtain⟨t,ht,rfl⟩:=q0g.mp hd
  rw[y5A,decide_eq_true_eq] at h
  rw[←h];exact ht
 ·intro h
  exact⟨dtT b,q0G h,by rw[y5A];simp⟩
theorem z9V {K:PySem.W.Frag}{H:Hp}{a:Addr}{t:List Int} (h:H a=some (.tup (t.map V.int))):IsD K H (.ref a) (dtT t):= .t (SqT.of h) (z3O t)
theorem y1r:∀(ts us:List (List Int)),Dt.oks 8 (ts.map dtT) (us.map dtT)=true
 |[],_=>by simp[Dt.oks]
 |_::_,[]=>by simp[Dt.oks]
 |t::r,u::q=>by
  simp only[q0u,Dt.oks,q1l]
  exact⟨z3f 7 t u,y1r r q⟩
theorem z8Z {K:PySem.W.Frag}{H:Hp}{l:Addr}{as:List Addr}{ts:List (List Int)} (h:H l=some (.lst (as.map V.ref))) (t:TsA H as ts):IsD K H (.ref l) (.l (ts.map dtT)):= .l (SqL.of h) t.isDs
theorem y5F {xs:List V}{lo hi:Int} (h0:0≤lo) (h1:lo≤hi) (h2:hi≤xs.length):z8i xs (some lo) (some hi)=(xs.drop lo.toNat).take (hi.toNat - lo.toNat):=by
 have e1:HT.sIx xs.length 0 (some lo)=lo.toNat:=by
  show (if lo<0 then _ else _)=_
  rw[if_neg (by lia)];lia
 have e2:HT.sIx xs.length xs.length (some hi)=hi.toNat:=by
  show (if hi<0 then _ else _)=_
  rw[if_neg (by lia)];lia
 unfold z8i
 rw[e1,e2]
theorem y2s {xs:List V}{hi:Int} (h1:0≤hi) (h2:hi≤xs.length):z8i xs none (some hi)=xs.take hi.toNat:=by
 have e2:HT.sIx xs.length xs.length (some hi)=hi.toNat:=by
  show (if hi<0 then _ else _)=_
  rw[if_neg (by lia)];lia
 unfold z8i
 rw[e2,HT.sIx_none,List.drop_zero,Nat.sub_zero]
namespace Wl
end Wl
end L2
set_option maxHeartbeats 1000000
namespace L2
open PySem PySem.Spec PySem.W PyProof.Rows
section
variable {X:Cx}{K:Frag}
def rCatA (K:Frag):R2:=fun x y H Q=>∃(a b:Addr) (xs ys:List V),x= .ref a∧y= .ref b∧SqT K H a xs∧H b=some (.tup ys)∧ys≠[]∧xs.length+ys.length≤sizeLine∧∀p H',Same H H'→H' p=some (.tup (xs++ys))→Q (.ref p) H'
theorem y3h (h:X.K=K):OpR X (binaryOp .Add) (rCatA K):=by
 subst h
 intro pins s σ H x y v u Q I rx ry h
 obtain⟨a,b,xs,ys,rfl,rfl,ha,hb,hy,hz,q⟩:=h
 by_cases hx:xs=[]
 ·subst hx
  cases rx
  cases ry
  obtain⟨its,r1,p1,_⟩:=I.tuple ha
  obtain⟨its2,r2,p2,_⟩:=I.tuple (SqT.of hb)
  have e1:its=[]:=r1.nil_iff.mpr rfl
  obtain⟨⟨cls,dd,data,sl⟩,ho,hc,n,hd⟩:=id p1
  obtain⟨⟨cls2,dd2,data2,sl2⟩,ho2,hc2,n2,hd2⟩:=id p2
  simp only at hc hd hc2 hd2
  subst hc hd hc2 hd2
  exact concat_meets ⟨_,ho,rfl⟩ ⟨_,ho2,rfl⟩ noFill_tuple_add seq_tuple_add PySem.F.slot_tuple_add PySem.F.entry_tuple_add (PySem.F.args_tuple_add_2 _ _)
   (tuple_addW0 a b its.toArray its2.toArray n n2 dd dd2 sl sl2 (by simp[e1])) ⟨ho,ho2,⟨.ref b,H,I,rfl,q b H (Same.refl _) hb⟩⟩
 ·exact y5b pins s σ H _ _ v u Q I rx ry ⟨a,b,xs,ys,rfl,rfl,ha,SqT.of hb,hx,hz,fun z=>absurd z hy,fun _ p hp=>q p _ (z0f hp _) z0d⟩
end
end L2
namespace L2
namespace Rk
inductive Sm (A:List (Nat→Int)):(Nat→Int)→Prop
 |zero:Sm A (fun _=>0)
 |more (c:Int) {r x:Nat→Int}:r∈A→Sm A x→Sm A (fun j=>c*r j+x j)
theorem Sm.cast {A:List (Nat→Int)}{x y:Nat→Int} (h:Sm A x) (e:∀j,x j=y j):Sm A y:=by
 rw[show y=x from funext fun j=>(e j).symm];exact h
theorem Sm.add {A:List (Nat→Int)}{x y:Nat→Int} (h:Sm A x) (h2:Sm A y):Sm A (fun j=>x j+y j):=by
 induction h with
 |zero=>exact h2.cast fun j=>by simp
 |more c hr _ ih=>exact (Sm.more c hr ih).cast fun j=>by dsimp only;lia
theorem Sm.mul {A:List (Nat→Int)}{x:Nat→Int} (c:Int) (h:Sm A x):Sm A (fun j=>c*x j):=by
 induction h with
 |zero=>exact Sm.zero.cast fun j=>by simp
 |more d hr _ ih=>exact (Sm.more (c*d) hr ih).cast fun j=>by dsimp only;grind
theorem Sm.one {A:List (Nat→Int)}{r:Nat→Int} (h:r∈A):Sm A r:=(Sm.more 1 h Sm.zero).cast fun j=>by simp
def In (A:List (Nat→Int)) (x:Nat→Int):Prop:=∃d:Int,d≠0∧Sm A fun j=>d*x j
theorem In.one {A:List (Nat→Int)}{r:Nat→Int} (h:r∈A):In A r:=⟨1,by decide,(Sm.one h).cast fun j=>by simp⟩
theorem In.of {A:List (Nat→Int)}{x:Nat→Int} (h:Sm A x):In A x:=⟨1,by decide,h.cast fun j=>by simp⟩
theorem In.zero {A:List (Nat→Int)}:In A fun _=>0:=In.of Sm.zero
theorem In.add {A:List (Nat→Int)}{x y:Nat→Int} (h:In A x) (h2:In A y):In A fun j=>x j+y j:=by
 obtain⟨d,d0,hd⟩:=h
 obtain⟨e,e0,he⟩:=h2
 exact⟨d*e,q0X d0 e0,((hd.mul e).add (he.mul d)).cast fun j=>by dsimp only;grind⟩
theorem In.mul {A:List (Nat→Int)}{x:Nat→Int} (c:Int) (h:In A x):In A fun j=>c*x j:=by
 obtain⟨d,d0,hd⟩:=h
 exact⟨d,d0,(hd.mul c).cast fun j=>by dsimp only;grind⟩
theorem In.div {A:List (Nat→Int)}{x:Nat→Int}{c:Int} (c0:c≠0) (h:In A fun j=>c*x j):In A x:=by
 obtain⟨d,d0,hd⟩:=h
 exact⟨d*c,q0X d0 c0,hd.cast fun j=>by dsimp only;grind⟩
theorem In.cast {A:List (Nat→Int)}{x y:Nat→Int} (h:In A x) (e:∀j,x j=y j):In A y:=by
 rw[show y=x from funext fun j=>(e j).symm];exact h
theorem In.sub {A B:List (Nat→Int)} (h:∀r∈A,In B r) {x:Nat→Int} (hx:In A x):In B x:=by
 obtain⟨d,d0,hd⟩:=hx
 have:∀y,Sm A y→In B y:=fun y hy=>by
  induction hy with
  |zero=>exact In.zero
  |more c hr _ ih=>exact ((h _ hr).mul c).add ih
 exact In.div d0 (this _ hd)
theorem In.same {A B:List (Nat→Int)} (h:∀r∈A,In B r) (h2:∀r∈B,In A r):In A=In B:=funext fun _=>propext ⟨In.sub h,In.sub h2⟩
open Classical in
noncomputable def dim:Nat→((Nat→Int)→Prop)→Nat
 |0,_=>0
 |m+1,S=>(if ∃x,S x∧x 0≠0 then 1 else 0)+dim m fun y=>∃x,S x∧x 0=0∧∀j,y j=x (j+1)
open Classical in
theorem z9h:∀(m:Nat) (S:(Nat→Int)→Prop),dim (m+1) S=dim m S+(if ∃x,S x∧(∀j,j<m→x j=0)∧x m≠0 then 1 else 0)
 |0,S=>by
  simp only[dim]
  have e:(∃x,S x∧x 0≠0)↔∃x,S x∧(∀j,j<0→x j=0)∧x 0≠0:=⟨fun⟨x,h1,h2⟩=>⟨x,h1,fun j h=>by lia,h2⟩,fun⟨x,h1,_,h2⟩=>⟨x,h1,h2⟩⟩
  simp only[e]
  lia
 |m+1,S=>by
  rw[dim,z9h m,dim]
  have e:(∃y:Nat→Int,(∃x,S x∧x 0=0∧∀j,y j=x (j+1))∧(∀j,j<m→y j=0)∧y m≠0)↔∃x,S x∧(∀j,j<m+1→x j=0)∧x (m+1)≠0:=by
   constructor
   ·rintro⟨y,⟨x,h1,h2,h3⟩,h4,h5⟩
    refine⟨x,h1,fun j hj=>?_,by rw[←h3];exact h5⟩
    cases j with
    |zero=>exact h2
    |succ j=>rw[←h3];exact h4 j (by lia)
   ·rintro⟨x,h1,h2,h3⟩
    exact⟨fun j=>x (j+1),⟨x,h1,h2 0 (by lia),fun _=>rfl⟩,fun j hj=>h2 (j+1) (by lia),h3⟩
  simp only[e]
  lia
def sh (x:Nat→Int):Nat→Int:=fun j=>x (j+1)
theorem Sm.head0 {A:List (Nat→Int)} (h:∀r∈A,r 0=0) {x:Nat→Int} (hx:Sm A x):x 0=0:=by
 induction hx with
 |zero=>rfl
 |more c hr _ ih=>dsimp only;rw[h _ hr,ih];lia
theorem Sm.sh {A:List (Nat→Int)}{x:Nat→Int} (hx:Sm A x):Sm (A.map sh) (Rk.sh x):=by
 induction hx with
 |zero=>exact Sm.zero
 |more c hr _ ih=>exact Sm.more c (List.mem_map_of_mem hr) ih
def zs (y:Nat→Int):Nat→Int
 |0=>0
 |j+1=>y j
theorem z9g {A:List (Nat→Int)}{m:Nat} (h:∀r∈A,r 0=0):dim (m+1) (In A)=dim m (In (A.map sh)):=by
 rw[dim,if_neg,Nat.zero_add]
 ·congr 1
  funext y
  refine propext ⟨?_,?_⟩
  ·rintro⟨x,⟨d,d0,hd⟩,h0,hy⟩
   exact⟨d,d0,hd.sh.cast fun j=>by show d*x (j+1)=_;rw[hy]⟩
  ·rintro⟨d,d0,hd⟩
   refine⟨zs y,⟨d,d0,?_⟩,rfl,fun _=>rfl⟩
   have:∀z,Sm (A.map sh) z→Sm A (zs z):=fun z hz=>by
        induction hz with
        |zero=>exact Sm.zero.cast fun j=>by cases j<;>rfl
        |more c hr _ ih=>
         obtain⟨r,hr2,rfl⟩:=q0g.mp hr
         refine (Sm.more c hr2 ih).cast fun j=>?_
         cases j with
         |zero=>show c*r 0+0=0;rw[h r hr2];lia
         |succ j=>rfl
   refine (this _ hd).cast fun j=>?_
   cases j with
   |zero=>show (0:Int)=d*0;lia
   |succ j=>rfl
 ·rintro⟨x,⟨d,d0,hd⟩,h0⟩
  have:=Sm.head0 h hd
  exact h0 ((q1b.mp this).resolve_left d0)
def cl (h r:Nat→Int):Nat→Int:=fun j=>h 0*r j - r 0*h j
theorem y3N {A B:List (Nat→Int)}{h:Nat→Int}{m:Nat} (h0:h 0≠0) (hA:∀r,r∈A↔r=h∨r∈B):dim (m+1) (In A)=1+dim m (In (B.map fun r=>sh (cl h r))):=by
 have hh:h∈A:=(hA h).mpr (.inl rfl)
 rw[dim,if_pos ⟨h,In.one hh,h0⟩]
 congr 2
 funext y
 refine propext ⟨?_,?_⟩
 ·rintro⟨x,⟨d,d0,hd⟩,hx,hy⟩
  have key:∀z,Sm A z→Sm (B.map fun r=>sh (cl h r)) (sh (cl h z)):=fun z hz=>by
   induction hz with
   |zero=>exact Sm.zero.cast fun j=>by show (0:Int)=h 0*0 - 0*h (j+1);lia
   | @more c r x hr _ ih=>
     rcases (hA r).mp hr with rfl|hb
     ·exact ih.cast fun j=>by show r 0*x (j+1) - x 0*r (j+1)=r 0*(c*r (j+1)+x (j+1)) - (c*r 0+x 0)*r (j+1);grind
     ·exact (Sm.more c (q0G (f:=fun r=>sh (cl h r)) hb) ih).cast fun j=>by
         show c*(h 0*r (j+1) - r 0*h (j+1))+(h 0*x (j+1) - x 0*h (j+1))=h 0*(c*r (j+1)+x (j+1)) - (c*r 0+x 0)*h (j+1)
         grind
  refine⟨h 0*d,q0X h0 d0,(key _ hd).cast fun j=>?_⟩
  show h 0*(d*x (j+1)) - d*x 0*h (j+1)=h 0*d*y j
  rw[hx,hy];grind
 ·rintro⟨d,d0,hd⟩
  refine⟨zs y,⟨d,d0,?_⟩,rfl,fun _=>rfl⟩
  have key:∀z,Sm (B.map fun r=>sh (cl h r)) z→Sm A (zs z):=fun z hz=>by
   induction hz with
   |zero=>exact Sm.zero.cast fun j=>by cases j<;>rfl
   |more c hr _ ih=>
    obtain⟨r,hr2,rfl⟩:=q0g.mp hr
    refine (Sm.more (c*h 0) ((hA r).mpr (.inr hr2)) (Sm.more (-(c*r 0)) hh ih)).cast fun j=>?_
    cases j with
    |zero=>show c*h 0*r 0+(-(c*r 0)*h 0+0)=0;grind
    |succ j=>show c*h 0*r (j+1)+(-(c*r 0)*h (j+1)+_)=c*(h 0*r (j+1) - r 0*h (j+1))+_;grind [zs]
  refine (key _ hd).cast fun j=>?_
  cases j with
  |zero=>show (0:Int)=d*0;lia
  |succ j=>rfl
inductive Ech:Nat→List (Nat→Int)→Prop
 |nil {m:Nat}:Ech m []
 |skip {m:Nat}{A:List (Nat→Int)}:(∀r∈A,r 0=0)→Ech m (A.map sh)→Ech (m+1) A
 |head {m:Nat}{h:Nat→Int}{B:List (Nat→Int)}:h 0≠0→(∀r∈B,r 0=0)→Ech m (B.map sh)→Ech (m+1) (h::B)
theorem y2j:∀m:Nat,dim m (In [])=0
 |0=>rfl
 |m+1=>by rw[z9g (fun r h=>by simp at h)];exact y2j m
theorem Ech.dim {m:Nat}{A:List (Nat→Int)} (h:Ech m A):Rk.dim m (In A)=A.length:=by
 induction h with
 |nil=>exact y2j _
 |skip h _ ih=>rw[z9g h,ih,List.length_map]
 | @head m h B h0 hB _ ih=>
   rw[y3N h0 (B:=B) (fun r=>by simp)]
   have e:In (B.map fun r=>sh (cl h r))=In (B.map sh):=by
    have ec:∀r∈B,sh (cl h r)=fun j=>h 0*sh r j:=fun r hr=>funext fun j=>by
        show h 0*r (j+1) - r 0*h (j+1)=h 0*r (j+1)
        rw[hB r hr];lia
    refine In.same (fun r hr=>?_) (fun r hr=>?_)
    ·obtain⟨u,hu,rfl⟩:=q0g.mp hr
     rw[ec u hu]
     exact In.mul _ (In.one (q0G hu))
    ·obtain⟨u,hu,rfl⟩:=q0g.mp hr
     refine In.div h0 ?_
     rw[←ec u hu]
     exact In.one (q0G (f:=fun r=>sh (cl h r)) hu)
   rw[e,ih,q0a,q0F];lia
def z9m (m:Nat) (p:(Nat→Int)×Nat):Prop:=p.2<m∧p.1 p.2≠0∧∀j,j<p.2→p.1 j=0
theorem y4p:∀(m:Nat) (ps:List ((Nat→Int)×Nat)),ps.Pairwise (fun a b=>a.2<b.2)→(∀p∈ps,z9m m p)→Ech m (ps.map Prod.fst)
 |_,[],_,_=> .nil
 |0,p::_,_,h=>absurd (h p List.mem_cons_self).1 (by lia)
 |m+1,p::ps,hp,h=>by
  have low:∀q∈ps,p.2<q.2:=(q1B.mp hp).1
  have down:∀qs:List ((Nat→Int)×Nat),qs.Pairwise (fun a b=>a.2<b.2)→(∀q∈qs,z9m (m+1) q∧0<q.2)→Ech m ((qs.map Prod.fst).map sh):=fun qs h1 h2=>by
   have:=y4p m (qs.map fun q=>(sh q.1,q.2 - 1)) ?_ ?_
   ·rw[q0C] at this ⊢
    exact this
   ·rw[q1e]
    refine List.Pairwise.imp_of_mem (fun {a b} ha hb hab=>?_) h1
    have:=(h2 a ha).2
    have:=(h2 b hb).2
    show a.2 - 1<b.2 - 1
    lia
   ·intro q hq
    obtain⟨u,hu,rfl⟩:=q0g.mp hq
    obtain⟨⟨y1,y2,y3⟩,y4⟩:=h2 u hu
    refine⟨by show u.2 - 1<m;lia,?_,fun j hj=>?_⟩
    ·show u.1 (u.2 - 1+1)≠0
     rw[Nat.sub_add_cancel y4];exact y2
    ·exact y3 (j+1) (by have:j<u.2 - 1:=hj;lia)
  obtain⟨y1,y2,y3⟩:=h p q0k
  by_cases h0:p.2=0
  ·rw[h0] at y2
   refine .head y2 (fun r hr=>?_) (down ps (q1B.mp hp).2 fun q hq=>⟨h q (q0f _ hq),by have:=low q hq;lia⟩)
   obtain⟨q,hq,rfl⟩:=q0g.mp hr
   exact (h q (q0f _ hq)).2.2 0 (by have:=low q hq;lia)
  ·have pos:∀q∈p::ps,0<q.2:=fun q hq=>by
    rcases q0r.mp hq with rfl|hq
    ·lia
    ·have:=low q hq;lia
   refine .skip (fun r hr=>?_) (down (p::ps) hp fun q hq=>⟨h q hq,pos q hq⟩)
   obtain⟨q,hq,rfl⟩:=q0g.mp hr
   exact (h q hq).2.2 0 (pos q hq)
def v (r:List Int):Nat→Int:=fun j=>r.getD j 0
theorem y5S {f:Int→Int→Int} (f0:f 0 0=0):∀(r h:List Int),r.length=h.length→∀j,v (List.zipWith f r h) j=f (v r j) (v h j)
 |[],[],_,j=>by show (0:Int)=f 0 0;rw[f0]
 |x::r,y::h,e,0=>rfl
 |x::r,y::h,e,j+1=>y5S f0 r h (by simpa using e) j
 |[],_::_,e,_=>by simp at e
 |_::_,[],e,_=>by simp at e
end Rk
end L2
namespace L2
namespace Rk
structure Red (m:Nat) (R:List ((Nat→Int)×Nat)):Prop where
 lead:∀p∈R,z9m m p
 up:R.Pairwise fun a b=>a.2<b.2
 off:∀p∈R,∀q∈R,p.2≠q.2→p.1 q.2=0
theorem Red.dim {m n:Nat}{R:List ((Nat→Int)×Nat)} (h:Red m R) (hn:m≤n):Rk.dim n (In (R.map Prod.fst))=R.length:=by
 rw[(y4p n R h.up fun p hp=>⟨by have:=(h.lead p hp).1;lia,(h.lead p hp).2⟩).dim,q0a]
def z2s {α:Type} (f:α→Int):List α→Int
 |[]=>0
 |a::l=>f a+z2s f l
theorem Red.more {m:Nat}{R R':List ((Nat→Int)×Nat)}{x:Nat→Int}{l:Nat} (k:(Nat→Int)×Nat→Nat→Int) (h:Red m R) (hx:z9m m (x,l)) (hz:∀p∈R,x p.2=0)
 (hk:∀p∈R,∃s own less:Int,s≠0∧own≠0∧own*p.1 l=less*x l∧∀j,s*k p j=own*p.1 j - less*x j)
 (hm:∀q,q∈R'↔q=(x,l)∨∃p∈R,q=(k p,p.2)) (hu:R'.Pairwise fun a b=>a.2<b.2):
 Red m R'∧In (R'.map Prod.fst)=In (x::R.map Prod.fst):=by
 have s0:∀{s a:Int},s≠0→s*a=0→a=0:=fun h1 h2=>(q1b.mp h2).resolve_left h1
 have less0:∀p∈R,∀less own:Int,own*p.1 l=less*x l→l<p.2→less=0:=fun p hp less own e hl=>by
  rw[(h.lead p hp).2.2 l hl,q0M] at e
  exact (q1b.mp e.symm).resolve_right hx.2.1
 have ne:∀p∈R,p.2≠l:=fun p hp e=>hx.2.1 (by show x l=0;rw[←e];exact hz p hp)
 refine⟨⟨fun q hq=>?_,hu,fun a ha b hb hne=>?_⟩,?_⟩
 ·rcases (hm q).mp hq with rfl|⟨p,hp,rfl⟩
  ·exact hx
  ·obtain⟨s,own,less,s1,o1,e1,e2⟩:=hk p hp
   obtain⟨y1,y2,y3⟩:=h.lead p hp
   refine⟨y1,fun z=>?_,fun j hj=>s0 s1 ?_⟩
   ·have:=e2 p.2
    rw[show k p p.2=0 from z,hz p hp,q0M,q0M,Int.sub_zero] at this
    exact y2 (s0 o1 this.symm)
   ·show s*k p j=0
    rw[e2,y3 j hj]
    by_cases hl:l<p.2
    ·rw[less0 p hp less own e1 hl];lia
    ·rw[show x j=0 from hx.2.2 j (by have:=ne p hp;have:j<p.2:=hj;show j<l;lia)];lia
 ·rcases (hm a).mp ha with rfl|⟨p,hp,rfl⟩<;>rcases (hm b).mp hb with rfl|⟨q,hq,rfl⟩
  ·exact absurd rfl hne
  ·exact hz q hq
  ·obtain⟨s,own,less,s1,o1,e1,e2⟩:=hk p hp
   refine s0 s1 ?_
   show s*k p l=0
   rw[e2,e1];lia
  ·obtain⟨s,own,less,s1,o1,e1,e2⟩:=hk p hp
   refine s0 s1 ?_
   show s*k p q.2=0
   rw[e2,h.off p hp q hq hne,hz q hq];lia
 ·have hxm:x∈R'.map Prod.fst:=q0g.mpr ⟨(x,l),(hm _).mpr (.inl rfl),rfl⟩
  refine In.same (fun r hr=>?_) (fun r hr=>?_)
  ·obtain⟨q,hq,rfl⟩:=q0g.mp hr
   rcases (hm q).mp hq with rfl|⟨p,hp,rfl⟩
   ·exact In.one q0k
   ·obtain⟨s,own,less,s1,o1,e1,e2⟩:=hk p hp
    refine In.div s1 ?_
    have a1:In (x::R.map Prod.fst) p.1:=In.one (q0f _ (q0G hp))
    have a2:In (x::R.map Prod.fst) x:=In.one q0k
    exact ((a1.mul own).add (a2.mul (-less))).cast fun j=>by rw[e2];grind
  ·rcases q0r.mp hr with rfl|hr
   ·exact In.one hxm
   ·obtain⟨p,hp,rfl⟩:=q0g.mp hr
    obtain⟨s,own,less,s1,o1,e1,e2⟩:=hk p hp
    refine In.div o1 ?_
    have a1:In (R'.map Prod.fst) (k p):=In.one (q0g.mpr ⟨(k p,p.2),(hm _).mpr (.inr ⟨p,hp,rfl⟩),rfl⟩)
    have a2:In (R'.map Prod.fst) x:=In.one hxm
    exact ((a1.mul s).add (a2.mul less)).cast fun j=>by rw[e2];grind
theorem y0Z {m:Nat}{R:List ((Nat→Int)×Nat)} (h:Red m R) {q:(Nat→Int)×Nat} (hq:q∈R) {x y x0:Nat→Int}{own less c:Int} (o:own≠0) (e:own*x q.2=less*q.1 q.2) (hy:∀j,y j=own*x j - less*q.1 j)
 (hc:c≠0) (hs:Sm (R.map Prod.fst) fun j=>x j - c*x0 j):y q.2=0∧(∀p∈R,x p.2=0→y p.2=0)∧own*c≠0∧Sm (R.map Prod.fst) fun j=>y j - own*c*x0 j:=by
 have y0:y q.2=0:=by rw[hy,e];lia
 refine⟨y0,fun p hp hz=>?_,q0X o hc,?_⟩
 ·by_cases hne:p.2=q.2
  ·rw[hne];exact y0
  ·rw[hy,hz,h.off q hq p hp fun z=>hne z.symm];lia
 ·exact (Sm.more (-less) (q0G hq) (hs.mul own)).cast fun j=>by rw[hy];grind
theorem z6I {A:List (Nat→Int)}{x x0:Nat→Int}{c:Int} (hc:c≠0) (hs:Sm A fun j=>x j - c*x0 j):In (x::A)=In (x0::A):=by
 have up:∀{r:Nat→Int}{z:Nat→Int},Sm A z→In (r::A) z:=fun h=>In.sub (fun r hr=>In.one (q0f _ hr)) (In.of h)
 refine In.same (fun r hr=>?_) (fun r hr=>?_)
 ·rcases q0r.mp hr with rfl|hr
  ·exact ((up hs).add ((In.one q0k).mul c)).cast fun j=>by lia
  ·exact In.one (q0f _ hr)
 ·rcases q0r.mp hr with rfl|hr
  ·refine In.div hc ?_
   exact ((In.one (r:=x) q0k).add ((up hs).mul (-1))).cast fun j=>by grind
  ·exact In.one (q0f _ hr)
theorem In.mono {A B:List (Nat→Int)} (h:∀r∈A,r∈B) {x:Nat→Int} (hx:In A x):In B x:=In.sub (fun r hr=>In.one (h r hr)) hx
theorem y1a {A:List (Nat→Int)}{x x0:Nat→Int}{c:Int} (hc:c≠0) (hs:Sm A fun j=>x j - c*x0 j) (h0:∀j,x j=0):In (x0::A)=In A:=by
 have hx:In A x0:=In.div hc (((In.of hs).mul (-1)).cast fun j=>by rw[h0];grind)
 refine In.same (fun r hr=>?_) (fun r hr=>In.one (q0f _ hr))
 rcases q0r.mp hr with rfl|hr
 ·exact hx
 ·exact In.one hr
theorem y3M {A:List (Nat→Int)}{m:Nat}{x:Nat→Int} (h:In A x) (h0:∀j,j<m→x j=0) (h1:x m≠0):dim (m+1) (In A)=dim m (In A)+1:=by
 rw[z9h,if_pos ⟨x,h,h0,h1⟩]
end Rk
end L2
namespace L2
open PySem PySem.Spec PyProof.Rows
theorem z9f {prog:Program}{w:World}{A:Around} (hh:A.handled=none) (b:Bool) (it a:Addr) (hne:a≠it) (its:Array Value):
 Draws prog w A it [it,a] its.size (fun i v=>its[i]? =some v) (fun i h=>SIt b h it a i∧SAt b h a its) where
 live:=fun _ _ st=>let ⟨o,_,ho,_⟩:=st.1.ob;⟨o,ho⟩
 frame:=fun _ _ _ st hk=>⟨st.1.keep fun o e=>hk it (by simp) o e,st.2.keep fun o e=>hk a (by simp) o e⟩
 item:=fun i s Q E hi st hQ=>by
  refine z3g st.1 st.2 (x:=its[i]) (by simp[hi]) fun h' hit' hs'=>?_
  exact hQ _ h' s.toks (by simp[hi]) ⟨hit',st.2.keep fun o e=>hs'.extBut _ o hne e⟩ hs'
 done:=fun s Q E st hE=>z6a hh st.1 st.2 (by simp) hE
abbrev eA (h:Heap) (b:Bool) (a:Addr):Heap:=h.push (itO b a)
abbrev eB (h:Heap) (b:Bool) (a:Addr):Heap:=(eA h b a).push {cls:= .type "enumerate",data:= .fields #[.none,.bool false,.ref h.objs.size,rawInt 0,.none,.none]}
theorem z9N (b:Bool) (l:Addr) (xs:Array Value):
 Meets (Builtin.«enumerate.__new__» ⟨[.type "enumerate",.ref l],[]⟩) (fun _ R s=>SAt b s.heap l xs∧R (.ok (.ret (.ref (eA s.heap b l).objs.size))) {s with heap:=eB s.heap b l}):=
 .of_wp fun prog w A R s h=>by
  obtain⟨hp,g,d,tk,os⟩:=s;obtain⟨h1,h⟩:=h
  have hsub:=sub_enumerate
  have k1:SAt b (Shared.heap ⟨hp,g,d,tk,os⟩) l xs:=h1
  wp_walk
  refine wpAny_stack_any fun st=>wpAny_pure ?_
  split
  ·rename_i c _ _ _ _ _
   cases (c==Value.type "enumerate")
   ·wp_walk using z4D k1
    exact⟨_,rfl,h⟩
   ·wp_walk using z4D k1
    exact⟨_,rfl,h⟩
  ·wp_walk using z4D k1
   exact⟨_,rfl,h⟩
section
variable {prog:Program}{w:World}{A:Around}{E:Value→Shared→Prop}{s:Shared}
theorem y0e {b:Bool}{l:Addr}{xs:Array Value}{Q:Value→Shared→Prop} (hl:SAt b s.heap l xs)
 (h:∀h',IsEnum h' (s.heap.objs.size+1) s.heap.objs.size 0 .none →SIt b h' s.heap.objs.size l 0→(∀p o,s.heap.get? p=some o→h'.get? p=some o)→Q (.ref (s.heap.objs.size+1)) {s with heap:=h'}):
 wpAny (model prog w) A (call (.type "enumerate") [.ref l]) Q E s:=by
 refine callType_new F.called_enumerate (by decide) (F.typeCall_enumerate_1 _) (F.newCall_enumerate_1 _) (fun obj=>F.args_object_init_2 obj _) F.entry_enumerate_new (z9N b l xs) ⟨hl,?_⟩
 have z1:(eA s.heap b l).objs.size =s.heap.objs.size+1:=q1u ..
 have g2:(eB s.heap b l).get? (eA s.heap b l).objs.size =some _:=q0s _ rfl
 have g1:SIt b (eB s.heap b l) s.heap.objs.size l 0:=SIt.new.keep fun o e=>q0d _ e
 show _∧_
 rw[z1] at g2
 rw[z1]
 exact⟨⟨_,g2,rfl⟩,h _ g2 g1 fun p o e=>q0d _ (q0d _ e)⟩
end
def Iteb (K:PySem.W.Frag) (b:Bool) (a:Addr):It:=
 ⟨fun i H=>∃xs x,SqB b K H a xs∧xs[i]? =some x,
  fun i H x H'=>∃p v,x= .ref p∧H p=none∧(∀xs,SqB b K H a xs→xs[i]? =some v)∧H'=upd H p (.tup [.int i,v]),
  fun i H=>∃xs,SqB b K H a xs∧xs.length=i⟩
theorem z9p {P:Program}{w:World}{K:PySem.W.Frag}{elts:List Expr}{k:Nat}{pos:Pos} (b:Bool) (a e it:Addr) (hne:e≠it):
 y5M P w K (.Tuple elts k pos) (Iteb K b a) [e,it] e (fun i h=>(∃old,IsEnum h e it ((i:Nat):Int) old)∧SIt b h it a i) where
 mem:=by simp
 obj:=fun i h st c hb=>by
  obtain⟨⟨old,st1⟩,st2⟩:=st
  rcases q0r.mp hb with rfl|hb
  ·exact⟨_,st1,fun v z=>by
        have z':Data.fields _=Data.cell v:=z
        cases z'⟩
  ·have e':=q0m.mp hb
   subst e'
   obtain⟨o,_,q,_,_,d⟩:=st2.ob
   exact⟨o,q,fun v z=>by rw[d] at z;cases z⟩
 keep:=fun i h h' st k=>⟨let ⟨old,q⟩:=st.1;⟨old,k e (by simp) _ q⟩,st.2.keep fun o q=>k it (by simp) o q⟩
 item:=by
  intro X hP hw hK hc i pins s σ H E I hf st hg
  subst hP hw hK
  obtain⟨xs,x,hq,hx⟩:=hg
  obtain⟨its,rv,p,hz⟩:=I.sq hq
  obtain⟨u,hu,ru⟩:=rv.get hx
  obtain⟨⟨old,st1⟩,st2⟩:=st
  have he:=hf e (by simp)
  have hi:=hf it (by simp)
  have hlt:e<s.heap.objs.size:=q0q st1
  have hlt2:it<s.heap.objs.size:=by obtain⟨o,_,q,_⟩:=st2.ob;exact q0q q
  have ane:a≠it:=I.sq_ne hq hi
  have aee:a≠e:=I.sq_ne hq he
  have hlt3:i<its.toArray.size:=by
   rw[q0e]
   exact (q0t.mp hu).1
  refine wpAny_pyNext_enum_itemD (z9f (prog:=X.prog) (w:=X.w) (A:=X.A.in1) (I.ok.hd hc) b it a ane its.toArray) st1 ⟨st2,p⟩ hlt3 hne (by simp[hne,Ne.symm aee]) fun x2 h' tk hP ho' st' hT hsz kk=>?_
  have ex:x2=u:=by
   have:its[i]? =some x2:=by simpa using hP
   rw[hu] at this
   exact (Option.some.inj this).symm
  subst ex
  refine⟨_,rfl,wpAny_letOwnedTupleGo_enum ho' fun h2 he2 hs2=>?_⟩
  have hT2:h2.get? s.heap.objs.size=some {cls:= .type "tuple",data:= .seq #[.int i tk,x2]}:=hs2.extBut _ _ (Nat.ne_of_gt hlt) hT
  have I1:Inv X pins σ (upd H s.heap.objs.size (.tup [.int i,x])) {s with heap:=h2,toks:=tk+1}:=by
   refine I.turnedLaid (fp:=[e,it]) hf (fun c ob hb q=>?_) (q0j _) ?_
   ·have hb1:c≠e:=fun z=>hb (by simp[z])
    have hb2:c≠it:=fun z=>hb (by simp[z])
    exact hs2.extBut c ob hb1 (kk c ob hb1 hb2 q)
   ·exact⟨by show 2≤sizeLine;decide,[.int i tk,x2],.cons ⟨_,rfl⟩ (.cons ru .nil),_,hT2,rfl,_,rfl⟩
  refine⟨.ref s.heap.objs.size,_,I1,rfl,⟨_,x,rfl,I.hok.fresh (q0j _),fun ys hy=>by rw[I.sq_inj hy hq];exact hx,rfl⟩,⟨⟨_,by simpa using he2⟩,?_⟩,fun c hb=>?_⟩
  ·exact st'.1.keep fun o q=>hs2.extBut it o (Ne.symm hne) q
  ·rcases q0r.mp hb with rfl|hb
   ·rw[z0l (q0w hlt)];exact he.1
   ·have e':=q0m.mp hb
    subst e'
    rw[z0l (q0w hlt2)];exact hi.1
 done:=by
  intro X hP hw hK hc i pins s σ H E I hf st hg
  subst hP hw hK
  obtain⟨xs,hq,hx⟩:=hg
  obtain⟨its,rv,p,hz⟩:=I.sq hq
  obtain⟨⟨old,st1⟩,st2⟩:=st
  have hl:=rv.length
  have ane:a≠it:=I.sq_ne hq (hf it (by simp))
  have en:i=its.toArray.size:=by rw[q0e];lia
  subst en
  refine wpAny_pyNext_enum_endD (z9f (prog:=X.prog) (w:=X.w) (A:=X.A.in1) (I.ok.hd hc) b it a ane its.toArray) st1 ⟨st2,p⟩ fun h' eb=>⟨rfl,?_⟩
  exact I.turnedAll (t':=s.toks) (fp:=[e,it]) hf fun c ob hb q=>eb c ob (fun z=>hb (by simp[z])) q
 self:=fun _ _ _ _ _ st h=>let ⟨_,q⟩:=st.1;wpAny_pyIter_enum q h
section
variable {X:Cx}{K:PySem.W.Frag}
def y6P (K:PySem.W.Frag) (tl:TA):TI:=fun σ H R=>tl σ H fun vs H1=>∃a b xs,vs=[.ref a]∧SqB b K H1 a xs∧R (Iteb K b a) H1
theorem z8K (h:X.K=K) {elts:List Expr}{k:Nat}{tpos:Pos}{l:Expr}{tl:TA}{p pos:Pos} (hg:Gl X "enumerate") (hm:X.mg "enumerate"=none) (ha:PA X [l] tl) (hs:starEach [l] X.env=[(false,eval l X.env)]:=by rfl):
 PI X (.Tuple elts k tpos) (.Call (.Name "enumerate" p) [l] [] pos) (y6P K tl):=by
 subst h
 intro pins s σ H R I h
 refine Call_ (z3D I hg hm boot_enumerate (PyProof.Rows.callWith_type1 (thn (ha pos pins s σ H _ I h) fun us s1 ⟨vs,H1,I1,r1,q1⟩=>?_) hs rfl))
 obtain⟨a,b,xs,e,hq,q⟩:=q1
 subst e
 cases r1 with
 |cons r rr=>
  cases rr
  cases r
  obtain⟨its,rv,p1,_⟩:=I1.sq hq
  refine y0e p1 fun h' he hit kk=>wpAny_pyIter_enum he ?_
  have I2:Inv X pins σ H1 {s1 with heap:=h'}:=I1.kept (t':=s1.toks) kk
  refine⟨_,[s1.heap.objs.size+1,s1.heap.objs.size],_,_,H1,rfl,I2,z9p b a _ _ (Nat.succ_ne_self _),⟨⟨_,he⟩,hit⟩,fun c hb=>?_,q⟩
  have fr:∀c,s1.heap.objs.size≤c→H1 c=none:=fun c hc=>I1.hok.fresh hc
  rcases q0r.mp hb with rfl|hb
  ·exact I1.fpOk (q1v _) (fr _ (q1v _))
  ·have e':=q0m.mp hb
   subst e'
   exact I1.fpOk (q0j _) (fr _ (q0j _))
theorem z9v (K:PySem.W.Frag) (b:Bool) (a:Addr) (xs:List V):z6r (Iteb K b a) xs.length (fun H=>SqB b K H a xs) (fun i H x H'=>∃p v,x= .ref p∧H p=none∧xs[i]? =some v∧H'=upd H p (.tup [.int i,v])) where
 go:=fun i H h hi=>⟨xs,xs[i],h,by simp[hi]⟩
 stop:=fun H h=>⟨xs,h,rfl⟩
 yld:=fun i H x H' h hi y=>let ⟨p,v,e,hn,hv,e2⟩:=y;⟨p,v,e,hn,hv xs h,e2⟩
end
end L2
namespace L2
open PySem PySem.Spec PyProof.Rows
theorem y4H {α:Type} (L:List α) (a b c d:α):((((L.set 0 a).set 1 b).set 0 c).set 1 d)=(L.set 0 c).set 1 d:=by
 match L with
 |[]=>rfl
 |[_]=>rfl
 |_::_::_=>rfl
theorem z2e {J:It}{n:Nat}{Ok:Hp→Prop}{ps:List (V×V)} (hx:n=ps.length) (R:z6r J n Ok (fun i H x H'=>∃p u v,x= .ref p∧H p=none∧ps[i]? =some (u,v)∧H'=upd H p (.tup [u,v]))) {fr:List (Option Nat)}{g:TG}{tt:TT}{te:TE}{σ:St}{H1:Hp}{Q:VK}{D:Addr} (hD:H1 D=none) (tst:V×V→Bool) (val:V×V→V)
 (hg:∀p u v σ H,H p=some (.tup [u,v])→∀S:St→Hp→Prop,S ((σ.set 0 (some u)).set 1 (some v)) H→g (.ref p) σ H S)
 (hok:∀H,Same H1 H→Ok H) (hn:n≤sizeLine)
 (ht:∀c∈ps,∀Hc,Same H1 Hc→∀S:Bool→Hp→Prop,S (tst c) Hc→tt (((z0H fr σ).set 0 (some c.1)).set 1 (some c.2)) Hc S)
 (hv:∀c∈ps,tst c=true→∀Hc,Same H1 Hc→∀S:VK,S (val c) Hc→te (((z0H fr σ).set 0 (some c.1)).set 1 (some c.2)) Hc S)
 (q:∀H',Same H1 H'→H' D=some (.lst ((ps.filter tst).map val))→Q (.ref D) H'):
 z3E J g tt te Q D (z0H fr σ) (upd H1 D (.lst [])):=by
 subst hx
 refine z4I R (fun i acc σ' H'=>((∃o1 o2,σ'=((z0H fr σ).set 0 o1).set 1 o2)∨σ'=z0H fr σ)∧Same H1 H'∧H' D=some (.lst acc)∧acc=((ps.take i).filter tst).map val) ⟨.inr rfl,z0f hD _,z0d,by simp⟩ ?_ hn ?_ ?_
 ·rintro i acc σ' H' hi ⟨_,hs,_,rfl⟩
  refine⟨hok _ hs,?_⟩
  rw[q0a]
  refine q0p (q1q _ _) ?_
  rw[q0o];lia
 ·rintro N i x acc σ' H' H'' hi ⟨hσ,hs,hd,ha⟩ ⟨p,u,v,rfl,hp,hc,rfl⟩ n1 n2
  have g2:=z0f hp (.tup [u,v])
  have hs2:=hs.trans g2
  have hd2:=g2 _ _ hd
  have e2:upd H' p (.tup [u,v]) p=some (.tup [u,v]):=z0d
  generalize upd H' p (.tup [u,v])=H2 at*
  have hm:(u,v)∈ps:=q0E hc
  have tk:ps.take (i+1)=ps.take i++[(u,v)]:=by rw[q0R,hc];rfl
  have eσ:(σ'.set 0 (some u)).set 1 (some v)=((z0H fr σ).set 0 (some u)).set 1 (some v):=by
   rcases hσ with⟨o1,o2,rfl⟩|rfl
   ·exact y4H _ _ _ _ _
   ·rfl
  refine hg p u v σ' H2 e2 _ ?_
  rw[eσ]
  refine ht (u,v) hm H2 hs2 _ ?_
  cases hb:tst (u,v) with
  |true=>
   refine z4N ?_
   refine hv (u,v) hm hb H2 hs2 _ ?_
   refine n1 _ _ _ hd2 ⟨.inl ⟨_,_,rfl⟩,fun b o e=>?_,z0d,?_⟩
   ·rw[z0l (z0h e hD)];exact hs2 _ _ e
   ·rw[tk,ha,q0W,q0x,q1f hb];rfl
  |false=>
   refine z1I ?_
   refine n2 _ _ ⟨.inl ⟨_,_,rfl⟩,hs2,hd2,?_⟩
   rw[tk,ha,q0W,q0x,q1g (by simp[hb])];simp
 ·rintro acc σ' H' ⟨_,hs,hd,ha⟩
  rw[q0T] at ha
  exact q H' hs (by rw[hd,ha])
def z4U (xs:List V):List (V×V):=xs.mapIdx fun i x=>(.int (i:Nat),x)
theorem z5d (K:PySem.W.Frag) (b:Bool) (a:Addr) (xs:List V):z6r (Iteb K b a) (z4U xs).length (fun H=>SqB b K H a xs) (fun i H x H'=>∃p u v,x= .ref p∧H p=none∧(z4U xs)[i]? =some (u,v)∧H'=upd H p (.tup [u,v])):=by
 have r:=z9v K b a xs
 have el:(z4U xs).length =xs.length:=List.length_mapIdx
 rw[el]
 exact⟨r.go,r.stop,fun i H x H' h hi y=>by
  obtain⟨p,v,e,hn,hv,e2⟩:=r.yld i H x H' h hi y
  exact⟨p,_,v,e,hn,by unfold z4U;rw[List.getElem?_mapIdx,hv];rfl,e2⟩⟩
theorem z1x (K:PySem.W.Frag) (b c:Bool) (l m:Addr) (xs ys:List V):z6r (Itz K b c l m) (xs.zip ys).length (fun H=>SqB b K H l xs∧SqB c K H m ys) (fun i H x H'=>∃p u v,x= .ref p∧H p=none∧(xs.zip ys)[i]? =some (u,v)∧H'=upd H p (.tup [u,v])):=by
 have r:=y2W K b c l m xs ys
 have el:(xs.zip ys).length =min xs.length ys.length:=q0Q
 rw[el]
 exact⟨r.go,r.stop,fun i H x H' h hi y=>by
  obtain⟨p,u,v,e,hn,hu,hv,e2⟩:=r.yld i H x H' h hi y
  exact⟨p,u,v,e,hn,by rw[q0K];exact⟨hu,hv⟩,e2⟩⟩
end L2
namespace L2
open PySem PySem.Spec PyProof.Rows
open Builtin.Int (intBits)
namespace Rk
def fp (r:List Int):Nat:=r.findIdx (· != 0)
theorem y3F {r:List Int} (h:∃n∈r,n≠0):fp r<r.length:=by
 unfold fp
 rw[List.findIdx_lt_length]
 obtain⟨n,hn,h0⟩:=h
 exact⟨n,hn,by simpa using h0⟩
theorem z2d {r:List Int} (h:∃n∈r,n≠0):v r (fp r)≠0:=by
 have hl:=y3F h
 show r.getD (fp r) 0≠0
 rw[q0b,q0c hl,Option.getD_some]
 have:=List.findIdx_getElem (xs:=r) (p:=fun n=>n != 0) (w:=hl)
 intro z
 have z':r[List.findIdx (fun n=>n != 0) r]=0:=z
 rw[z'] at this
 exact absurd this (by decide)
theorem z1g {r:List Int}{j:Nat} (h:j<fp r):v r j=0:=by
 show r.getD j 0=0
 rw[q0b]
 cases e:r[j]? with
 |none=>rfl
 |some n=>
  obtain⟨hl,e2⟩:=q0t.mp e
  have:=List.not_of_lt_findIdx (p:=fun n=>n != 0) (xs:=r) h
  rw[←e2]
  simpa using this
theorem z2B {r:List Int}{l:Nat} (h1:v r l≠0) (h2:∀j,j<l→v r j=0):fp r=l:=by
 have hex:∃n∈r,n≠0:=by
  have hl:l<r.length:=q0l fun hn=>h1 (by
   show r.getD l 0=0
   rw[q0b,q1C (by lia)];rfl)
  refine⟨r[l],q0A hl,fun z=>h1 ?_⟩
  show r.getD l 0=0
  rw[q0b,q0c hl,Option.getD_some,z]
 rcases Nat.lt_trichotomy (fp r) l with h|h|h
 ·exact absurd (h2 _ h) (z2d hex)
 ·exact h
 ·exact absurd (z1g h) h1
theorem z5q:∀(r:List Int) (k:Nat),(∃n∈r,n≠0)→((((r.map V.int).mapIdx fun i x=>(V.int ((i+k:Nat):Int),x)).filter fun c=>match c.2 with| .int n=> !decide (V.int n=V.int 0)|_=>false).map Prod.fst)[0]? =some (V.int ((fp r+k:Nat):Int))
 |[],_,h=>by obtain⟨n,hn,_⟩:=h;simp at hn
 |m::r,k,h=>by
  rw[q0u,List.mapIdx_cons]
  by_cases hm:m=0
  ·subst hm
   rw[q1g (by simp)]
   have h':∃n∈r,n≠0:=by
        obtain⟨n,hn,h0⟩:=h
        rcases q0r.mp hn with rfl|hn
        ·exact absurd rfl h0
        ·exact⟨n,hn,h0⟩
   have ih:=z5q r (k+1) h'
   have e:fp (0::r)=fp r+1:=by unfold fp;rw[List.findIdx_cons];rfl
   rw[e,show fp r+1+k=fp r+(k+1) by lia]
   rw[show (fun i x=>(fun i x=>(V.int ((i+k:Nat):Int),x)) (i+1) x)=(fun (i:Nat) (x:V)=>(V.int ((i+(k+1):Nat):Int),x)) from by funext i x;show (V.int ((i+1+k:Nat):Int),x)=_;rw[show i+1+k=i+(k+1) by lia]]
   exact ih
  ·rw[q1f (by simp[hm])]
   have e:fp (m::r)=0:=by unfold fp;rw[List.findIdx_cons,show (m != 0)=true from by simpa using hm];rfl
   rw[e];rfl
def z4M (xs rs:List Int):Int:=(v rs (fp rs)).fdiv (Int.gcd (v rs (fp rs)) (v xs (fp rs)))
def z2c (xs rs:List Int):Int:=(v xs (fp rs)).fdiv (Int.gcd (v rs (fp rs)) (v xs (fp rs)))
def z0r (xs rs:List Int):List Int:=List.zipWith (fun one other=>z4M xs rs*one - z2c xs rs*other) xs rs
theorem z7d {a b:Int} (h:a≠0):((Int.gcd a b:Nat):Int)≠0:=fun z=>h (Int.gcd_eq_zero_iff.mp (Int.ofNat_eq_zero.mp z)).1
theorem z5j {xs rs:List Int} (h:∃n∈rs,n≠0):z4M xs rs≠0:=Wl.fdiv_ne (q1j ..) (z2d h)
theorem z3d {xs rs:List Int} (h:∃n∈rs,n≠0):z4M xs rs*v xs (fp rs)=z2c xs rs*v rs (fp rs):=by
 have g0:=z7d (b:=v xs (fp rs)) (z2d h)
 have e1:=Wl.fdiv_mul (q1j (a:=v rs (fp rs)) (b:=v xs (fp rs)))
 have e2:=Wl.fdiv_mul (q1I (a:=v rs (fp rs)) (b:=v xs (fp rs)))
 unfold z4M z2c
 generalize ((Int.gcd (v rs (fp rs)) (v xs (fp rs)):Nat):Int)=g at*
 generalize (v rs (fp rs)).fdiv g=o at*
 generalize (v xs (fp rs)).fdiv g=l at*
 rw[←e1,←e2]
 grind
theorem z1Q {xs rs:List Int} (hl:xs.length=rs.length) (j:Nat):v (z0r xs rs) j=z4M xs rs*v xs j - z2c xs rs*v rs j:=
 y5S (f:=fun one other=>z4M xs rs*one - z2c xs rs*other) (by simp) xs rs hl j
theorem z1q {xs rs:List Int} (hl:xs.length=rs.length):(z0r xs rs).length =xs.length:=by
 unfold z0r;rw[List.length_zipWith];lia
end Rk
end L2
namespace L2
open PySem PySem.Spec PyProof.Rows
open Builtin.Int (intBits)
namespace Rk
open Wl
theorem z2z {r:List Int} (j:Nat):v (z0n r) j*byL r=v r j:=by
 show (z0n r).getD j 0*byL r=r.getD j 0
 unfold z0n
 rw[q0b,q0b,q0h]
 cases e:r[j]? with
 |none=>simp
 |some n=>
  show n.fdiv (byL r)*byL r=n
  exact fdiv_mul (z2D (q0E e))
theorem plain_len (r:List Int):(z0n r).length =r.length:=by unfold z0n;rw[List.length_map]
theorem z2b {r:List Int} (h:∃n∈r,n≠0) (j:Nat):v (z0n r) j=0↔v r j=0:=by
 constructor
 ·intro z
  rw[←z2z,z];lia
 ·intro z
  have:=z2z (r:=r) j
  rw[z] at this
  exact (q1b.mp this).resolve_right (z2Q h)
theorem z5R {r:List Int} (h:∃n∈r,n≠0):∃n∈z0n r,n≠0:=by
 obtain⟨n,hn,h0⟩:=h
 refine⟨n.fdiv (byL r),?_,fdiv_ne (z2D hn) h0⟩
 unfold z0n
 exact q0G hn
theorem z8W {s:Int}:∀(r:List Int),(∀n∈r,s∣n)→z0N (r.map fun n=>n.fdiv s)=(z0N r).fdiv s
 |[],_=>by show (0:Int)=(0:Int).fdiv s;simp
 |n::r,h=>by
  show (if n.fdiv s=0 then z0N (r.map fun n=>n.fdiv s) else n.fdiv s)=(if n=0 then z0N r else n).fdiv s
  have ih:=z8W r fun m hm=>h m (q0f _ hm)
  by_cases h0:n=0
  ·subst h0
   rw[if_pos (by simp),if_pos rfl,ih]
  ·rw[if_neg (fdiv_ne (h n q0k) h0),if_neg h0]
theorem z2k {r:List Int} (h:∃n∈r,n≠0):z0n (z0n r)=z0n r:=by
 have b0:=z2Q h
 have dv:∀n∈r,byL r∣n:=fun n hn=>z2D hn
 have el:z0N (z0n r)=(z0N r).fdiv (byL r):=z8W r dv
 have ln:=z6d h
 have ld:byL r∣z0N r:=by
  have:z0N r∈r∨z0N r=0:=by
   clear h b0 dv el ln
   induction r with
   |nil=>exact .inr rfl
   |cons n r ih=>
    by_cases h0:n=0
    ·have e:z0N (n::r)=z0N r:=if_pos h0
     rw[e]
     rcases ih with ih|ih
     ·exact .inl (q0f _ ih)
     ·exact .inr ih
    ·have e:z0N (n::r)=n:=if_neg h0
     rw[e];exact .inl q0k
  rcases this with h1|h1
  ·exact dv _ h1
  ·exact absurd h1 ln
 have em:=fdiv_mul ld
 have pos:0<z0N (z0n r):=by
  rw[el]
  generalize hq:(z0N r).fdiv (byL r)=q at*
  have hg:0<(z1J r:Int):=by have:=z1W h;lia
  by_cases hn:z0N r<0
  ·have eb:byL r= -(z1J r:Int):=by unfold byL;rw[if_pos hn]
   rw[eb] at em
   refine q0l fun hc=>?_
   have:0≤(-q)*(z1J r:Int):=q0U (by lia) (by lia)
   have e2:q* -(z1J r:Int)=(-q)*(z1J r:Int):=by grind
   lia
  ·have eb:byL r=(z1J r:Int):=by unfold byL;rw[if_neg hn]
   rw[eb] at em
   refine q0l fun hc=>?_
   have:0≤(-q)*(z1J r:Int):=q0U (by lia) (by lia)
   have e2:q*(z1J r:Int)= -((-q)*(z1J r:Int)):=by grind
   lia
 have g1:(z1J (z0n r):Int)∣1:=by
  have hb:∀n∈r,(z1J (z0n r):Int)*byL r∣n:=fun n hn=>by
   have h1:(z1J (z0n r):Int)∣n.fdiv (byL r):=z3P (by unfold z0n;exact List.mem_map_of_mem hn)
   have:=Int.mul_dvd_mul h1 (Int.dvd_refl (byL r))
   rw[fdiv_mul (dv n hn)] at this
   exact this
  have h2:=y3G hb
  have h3:(z1J r:Int)∣byL r:=by
   unfold byL
   split
   ·exact Int.dvd_neg.mpr (Int.dvd_refl _)
   ·exact Int.dvd_refl _
  have h4:=Int.dvd_trans h2 h3
  obtain⟨c,hc⟩:=h4
  refine⟨c,?_⟩
  have:byL r*(z1J (z0n r)*c)=byL r*1:=by rw[Int.mul_one];conv=>rhs;rw[hc]
                                         grind
  exact (q1E b0 this).symm
 have g2:(z1J (z0n r):Int)=1:=by
  have:=Int.eq_one_of_dvd_one (by lia) g1
  exact this
 have eb:byL (z0n r)=1:=by
  unfold byL
  rw[if_neg (by lia),g2]
 have:z0n (z0n r)=(z0n r).map fun n=>n.fdiv 1:=by
  show (z0n r).map (fun n=>n.fdiv (byL (z0n r)))=_
  rw[eb]
 rw[this]
 conv=>rhs;rw[←List.map_id (z0n r)]
 exact q1w fun n _=>by simp
end Rk
end L2
namespace L2
namespace Rk
open Wl
structure Rws (m:Nat) (us:List (List Int)):Prop where
 row:∀t∈us,t.length=m+1∧fp t<m∧z0n t=t
 up:us.Pairwise fun a b=>fp a<fp b
 off:∀s∈us,∀t∈us,fp s≠fp t→v s (fp t)=0
theorem Rws.nil {m:Nat}:Rws m []:=⟨fun t h=>by simp at h,.nil,fun t h=>by simp at h⟩
theorem z1Y {t:List Int}{j:Nat} (h:v t j≠0):∃n∈t,n≠0:=by
 have h':t.getD j 0≠0:=h
 rw[q0b] at h'
 cases e:t[j]? with
 |none=>rw[e] at h';exact absurd rfl h'
 |some n=>rw[e] at h';exact⟨n,List.mem_of_getElem? e,h'⟩
theorem z6T {t:List Int} (h:fp t<t.length):∃n∈t,n≠0:=by
 unfold fp at h
 rw[List.findIdx_lt_length] at h
 obtain⟨n,hn,h0⟩:=h
 exact⟨n,hn,by simpa using h0⟩
theorem z6j {r:List Int} (h:∃n∈r,n≠0):fp (z0n r)=fp r:=
 z2B (fun z=>z2d h ((z2b h _).mp z)) fun j hj=>(z2b h j).mpr (z1g hj)
theorem Rws.nz {m:Nat}{us:List (List Int)} (h:Rws m us) {t:List Int} (ht:t∈us):∃n∈t,n≠0:=by
 obtain⟨a,b,_⟩:=h.row t ht
 exact z6T (by lia)
theorem Rws.inj {m:Nat}{us:List (List Int)} (h:Rws m us) {s t:List Int} (hs:s∈us) (ht:t∈us) (e:fp s=fp t):s=t:=by
 have hu:=h.up
 clear h
 induction hu with
 |nil=>simp at hs
 |cons h1 _ ih=>
  rcases q0r.mp hs with e1|h2<;>rcases q0r.mp ht with e2|h3
  ·rw[e1,e2]
  ·have:=h1 _ h3;rw[e1] at e;lia
  ·have:=h1 _ h2;rw[e2] at e;lia
  ·exact ih h2 h3
theorem Rws.red {m:Nat}{us:List (List Int)} (h:Rws m us):Red m (us.map fun t=>(v t,fp t)):=by
 refine⟨fun p hp=>?_,?_,fun p hp q hq hne=>?_⟩
 ·obtain⟨t,ht,rfl⟩:=q0g.mp hp
  exact⟨(h.row t ht).2.1,z2d (h.nz ht),fun j hj=>z1g hj⟩
 ·rw[q1e];exact h.up
 ·obtain⟨s,hs,rfl⟩:=q0g.mp hp
  obtain⟨t,ht,rfl⟩:=q0g.mp hq
  exact h.off s hs t ht hne
theorem z4G (us:List (List Int)):(us.map fun t=>(v t,fp t)).map Prod.fst=us.map v:=by rw[q0C];rfl
theorem Rws.dim {m n:Nat}{us:List (List Int)} (h:Rws m us) (hn:m≤n):Rk.dim n (In (us.map v))=us.length:=by
 have:=h.red.dim hn
 rw[z4G,q0a] at this
 exact this
theorem y1b {m:Nat}{us:List (List Int)} (h:Rws m us) {xs:List Int}:∀(todo:List (List Int)) (y:List Int) (c:Int) (seen:List (List Int)),(∀t∈todo,t∈us)→(∀t∈seen,t∈us∧v y (fp t)=0)→y.length=m+1→c≠0→Sm (us.map v) (fun j=>v y j - c*v xs j)→
 (todo.foldl z0r y).length =m+1∧(∀t∈seen++todo,v (todo.foldl z0r y) (fp t)=0)∧∃c',c'≠0∧Sm (us.map v) fun j=>v (todo.foldl z0r y) j - c'*v xs j
 |[],y,c,seen,_,hs,hl,hc,hS=>⟨hl,fun t ht=>(hs t (by simpa using ht)).2,c,hc,hS⟩
 |t::todo,y,c,seen,ht,hs,hl,hc,hS=>by
  have htu:=ht t q0k
  have hlen:y.length=t.length:=by rw[hl,(h.row t htu).1]
  have st:=y0Z (R:=us.map fun t=>(v t,fp t)) h.red (q:=(v t,fp t)) (q0g.mpr ⟨t,htu,rfl⟩) (x:=v y) (y:=v (z0r y t)) (x0:=v xs) (own:=z4M y t) (less:=z2c y t) (c:=c) (z5j (h.nz htu)) (z3d (h.nz htu)) (fun j=>z1Q hlen j) hc (by rw[z4G];exact hS)
  rw[z4G] at st
  obtain⟨a1,a2,a3,a4⟩:=st
  have r:=y1b h (xs:=xs) todo (z0r y t) (z4M y t*c) (seen++[t]) (fun s hs'=>ht s (q0f _ hs')) (fun s hs'=>by
   rcases q0H.mp hs' with h1|h1
   ·obtain⟨b1,b2⟩:=hs s h1
    exact⟨b1,a2 (v s,fp s) (q0g.mpr ⟨s,b1,rfl⟩) b2⟩
   ·rw[q0m.mp h1];exact⟨htu,a1⟩) (by rw[z1q hlen,hl]) a3 a4
  rw[List.append_assoc,List.singleton_append] at r
  exact r
theorem Rws.rest {m:Nat}{us:List (List Int)} (h:Rws m us) {xs:List Int} (hl:xs.length=m+1):
 (us.foldl z0r xs).length =m+1∧(∀t∈us,v (us.foldl z0r xs) (fp t)=0)∧∃c,c≠0∧Sm (us.map v) fun j=>v (us.foldl z0r xs) j - c*v xs j:=by
 have:=y1b h (xs:=xs) us xs 1 [] (fun t ht=>ht) (fun t ht=>by simp at ht) hl (by decide) (Sm.zero.cast fun j=>by lia)
 simpa using this
def z1T (r:List Int) (t:List Int):List Int:=z0n (z0r t r)
theorem Rws.more {m:Nat}{us us':List (List Int)}{xs:List Int} (h:Rws m us) (hl:xs.length=m+1) (hnz:∃j,j<m∧v (us.foldl z0r xs) j≠0)
 (hp:us'.Perm (us.map (z1T (z0n (us.foldl z0r xs)))++[z0n (us.foldl z0r xs)])) (hs:us'.Pairwise fun a b=>fp a≤fp b):
 Rws m us'∧In (us'.map v)=In (v xs::us.map v)∧us'.length=us.length+1:=by
 obtain⟨r1,r2,c,c0,r3⟩:=h.rest hl
 generalize us.foldl z0r xs=rest at*
 obtain⟨j0,hj0,hj1⟩:=hnz
 have nzr:∃n∈rest,n≠0:=z1Y hj1
 have ha:z0n (z0n rest)=z0n rest:=z2k nzr
 have nza:=z5R nzr
 have la:(z0n rest).length =m+1:=by rw[plain_len,r1]
 have za:∀t∈us,v (z0n rest) (fp t)=0:=fun t ht=>(z2b nzr _).mpr (r2 t ht)
 have fpa:fp (z0n rest)<m:=by
  rw[z6j nzr]
  refine q0l fun hc=>hj1 (z1g ?_)
  lia
 have spn:In (v (z0n rest)::us.map v)=In (v xs::us.map v):=by
  rw[←z6I c0 r3]
  refine In.same (fun r hr=>?_) (fun r hr=>?_)
  ·rcases q0r.mp hr with rfl|hr
   ·refine In.div (z2Q nzr) ?_
    exact (In.one (r:=v rest) q0k).cast fun j=>by rw[←z2z (r:=rest) j,q1J]
   ·exact In.one (q0f _ hr)
  ·rcases q0r.mp hr with rfl|hr
   ·exact ((In.one (r:=v (z0n rest)) q0k).mul (byL rest)).cast fun j=>by rw[←z2z (r:=rest) j,q1J]
   ·exact In.one (q0f _ hr)
 generalize z0n rest=a at*
 have cl:∀t∈us,t.length=a.length:=fun t ht=>by rw[(h.row t ht).1,la]
 have cv:∀t∈us,∀j,v (z0r t a) j=z4M t a*v t j - z2c t a*v a j:=fun t ht j=>z1Q (cl t ht) j
 have ne:∀t∈us,fp t≠fp a:=fun t ht e=>z2d nza (by rw[←e];exact za t ht)
 have l0:∀t∈us,fp a<fp t→z2c t a=0:=fun t ht hlt=>by
  have e:=z3d (xs:=t) nza
  rw[z1g hlt,q0M] at e
  exact (q1b.mp e.symm).resolve_right (z2d nza)
 have kn0:∀t∈us,v (z0r t a) (fp t)≠0:=fun t ht=>by
  rw[cv t ht,za t ht,q0M,Int.sub_zero]
  exact q0X (z5j nza) (z2d (h.nz ht))
 have knz:∀t∈us,∃n∈z0r t a,n≠0:=fun t ht=>z1Y (kn0 t ht)
 have kfp0:∀t∈us,fp (z0r t a)=fp t:=fun t ht=>z2B (kn0 t ht) fun j hj=>by
  rw[cv t ht,z1g hj,q0M]
  by_cases hlt:fp a<fp t
  ·rw[l0 t ht hlt];lia
  ·rw[z1g (r:=a) (j:=j) (by have:=ne t ht;lia)];lia
 have kfp:∀t∈us,fp (z1T a t)=fp t:=fun t ht=>by unfold z1T;rw[z6j (knz t ht),kfp0 t ht]
 have mem':∀u,u∈us'↔u=a∨∃t∈us,u=z1T a t:=fun u=>by
  rw[hp.mem_iff,q0H,q0g,q0m]
  constructor
  ·rintro (⟨t,ht,rfl⟩|rfl)
   ·exact .inr ⟨t,ht,rfl⟩
   ·exact .inl rfl
  ·rintro (rfl|⟨t,ht,rfl⟩)
   ·exact .inr rfl
   ·exact .inl ⟨t,ht,rfl⟩
 have nd:(us'.map fp).Nodup :=by
  have e:(us.map (z1T a)++[a]).map fp=us.map fp++[fp a]:=by
   rw[q0x,q0C]
   congr 1
   exact q1w fun t ht=>kfp t ht
  refine ((hp.map fp).nodup_iff).mpr ?_
  rw[e]
  refine List.nodup_append.mpr ⟨?_,by simp,fun x hx y hy=>?_⟩
  ·have:(us.map fp).Pairwise (· < ·):=by rw[q1e];exact h.up
   exact this.imp fun hlt=>by lia
  ·rw[q0m] at hy
   obtain⟨t,ht,rfl⟩:=q0g.mp hx
   rw[hy];exact ne t ht
 have up':us'.Pairwise fun a b=>fp a<fp b:=by
  have nd':us'.Pairwise fun a b=>fp a≠fp b:=by
   have:(us'.map fp).Pairwise (· ≠ ·):=nd
   rw[q1e] at this
   exact this
  exact hs.imp₂ (fun hle hne=>by lia) nd'
 let k:(Nat→Int)×Nat→Nat→Int:=fun p=>match us.find? fun t=>fp t==p.2 with
  |some t=>v (z1T a t)
  |none=>fun _=>0
 have kk:∀t∈us,k (v t,fp t)=v (z1T a t):=fun t ht=>by
  show (match us.find? fun s=>fp s==fp t with|some s=>v (z1T a s)|none=>fun _=>0)=_
  cases e:us.find? fun s=>fp s==fp t with
  |none=>
   have:=List.find?_eq_none.mp e t ht
   simp at this
  |some s=>
   have h1:=List.mem_of_find?_eq_some e
   have h2:=List.find?_some e
   rw[h.inj h1 ht (by simpa using h2)]
 have rm:=Red.more (R:=us.map fun t=>(v t,fp t)) (R':=us'.map fun t=>(v t,fp t)) (x:=v a) (l:=fp a) k h.red ⟨fpa,z2d nza,fun j hj=>z1g hj⟩ (fun p hp=>by
  obtain⟨t,ht,rfl⟩:=q0g.mp hp
  exact za t ht) (fun p hp=>by
  obtain⟨t,ht,rfl⟩:=q0g.mp hp
  refine⟨byL (z0r t a),z4M t a,z2c t a,z2Q (knz t ht),z5j nza,z3d nza,fun j=>?_⟩
  rw[kk t ht,q1J]
  show v (z0n (z0r t a)) j*_=_
  rw[z2z,cv t ht]) (fun q=>by
  rw[q0g]
  constructor
  ·rintro⟨u,hu,rfl⟩
   rcases (mem' u).mp hu with rfl|⟨t,ht,rfl⟩
   ·exact .inl rfl
   ·exact .inr ⟨(v t,fp t),q0g.mpr ⟨t,ht,rfl⟩,by rw[kk t ht,kfp t ht]⟩
  ·rintro (rfl|⟨p,hp,rfl⟩)
   ·exact⟨a,(mem' a).mpr (.inl rfl),rfl⟩
   ·obtain⟨t,ht,rfl⟩:=q0g.mp hp
    exact⟨z1T a t,(mem' _).mpr (.inr ⟨t,ht,rfl⟩),by rw[kk t ht,kfp t ht]⟩) (by rw[q1e];exact up')
 rw[z4G,z4G] at rm
 refine⟨⟨fun u hu=>?_,up',fun s hs t ht hne=>?_⟩,rm.2.trans spn,?_⟩
 ·rcases (mem' u).mp hu with rfl|⟨t,ht,rfl⟩
  ·exact⟨la,fpa,ha⟩
  ·refine⟨?_,?_,z2k (knz t ht)⟩
   ·unfold z1T;rw[plain_len,z1q (cl t ht),cl t ht,la]
   ·rw[kfp t ht];exact (h.row t ht).2.1
 ·exact rm.1.off (v s,fp s) (q0g.mpr ⟨s,hs,rfl⟩) (v t,fp t) (q0g.mpr ⟨t,ht,rfl⟩) hne
 ·rw[hp.length_eq,q0n,q0a];rfl
theorem Rws.same {m:Nat}{us:List (List Int)}{xs:List Int} (h:Rws m us) (hl:xs.length=m+1) (h0:∀j,v (us.foldl z0r xs) j=0):In (us.map v)=In (v xs::us.map v):=by
 obtain⟨_,_,c,c0,r3⟩:=h.rest hl
 exact (y1a c0 r3 h0).symm
theorem Rws.off_all {m:Nat}{us:List (List Int)}{xs:List Int} (h:Rws m us) (hl:xs.length=m+1):In (v xs::us.map v) (v (us.foldl z0r xs)):=by
 obtain⟨_,_,c,c0,r3⟩:=h.rest hl
 rw[←z6I c0 r3]
 exact In.one q0k
end Rk
end L2
namespace L2
open PySem PySem.Spec PyProof.Rows
inductive Each {α β:Type} (R:α→β→Prop):List α→List β→Prop
 |nil:Each R [] []
 |cons {a:α}{b:β}{as:List α}{bs:List β}:R a b→Each R as bs→Each R (a::as) (b::bs)
theorem Each.snoc {α β:Type}{R:α→β→Prop}{as:List α}{bs:List β}{a:α}{b:β} (h:Each R as bs) (e:R a b):Each R (as++[a]) (bs++[b]):=by
 induction h with
 |nil=>exact .cons e .nil
 |cons h1 _ ih=>exact .cons h1 ih
theorem Each.imp {α β:Type}{R S:α→β→Prop}{as:List α}{bs:List β} (f:∀a b,R a b→S a b) (h:Each R as bs):Each S as bs:=by
 induction h with
 |nil=>exact .nil
 |cons h1 _ ih=>exact .cons (f _ _ h1) ih
theorem Each.length {α β:Type}{R:α→β→Prop}{as:List α}{bs:List β} (h:Each R as bs):as.length=bs.length:=by
 induction h with
 |nil=>rfl
 |cons _ _ ih=>rw[List.length_cons,List.length_cons,ih]
theorem Each.get {α β:Type}{R:α→β→Prop}{as:List α}{bs:List β} (h:Each R as bs):∀{i:Nat}{a:α}{b:β},as[i]? =some a→bs[i]? =some b→R a b:=by
 induction h with
 |nil=>intro i a b e;simp at e
 |cons h1 _ ih=>
  intro i a b e1 e2
  cases i with
  |zero=>cases e1;cases e2;exact h1
  |succ i=>exact ih (by simpa using e1) (by simpa using e2)
theorem z3z {J:It}{n:Nat}{Ok:Hp→Prop}{xs:List V} (hx:n=xs.length) (R:z6r J n Ok (fun i H x H'=>H'=H∧xs[i]? =some x)) {fr:List (Option Nat)}{tt:TT}{te:TE}{σ:St}{H1:Hp}{Q:VK}{D:Addr} (hD:H1 D=none) (tst:V→Bool) (Rel:Hp→V→V→Prop)
 (hrel:∀H H' x u,(∀b o,b≠D→H b=some o→H' b=some o)→(∃acc,H D=some (.lst acc))→Rel H x u→Rel H' x u)
 (hok:∀H,Same H1 H→Ok H) (hn:n≤sizeLine)
 (ht:∀x∈xs,∀Hc,Same H1 Hc→∀S:Bool→Hp→Prop,(∀H',Same Hc H'→S (tst x) H')→tt ((z0H fr σ).set 0 (some x)) Hc S)
 (hv:∀x∈xs,tst x=true→∀Hc,Same H1 Hc→(∃acc,Hc D=some (.lst acc))→∀S:VK,(∀u H',Same Hc H'→Rel H' x u→S u H')→te ((z0H fr σ).set 0 (some x)) Hc S)
 (q:∀us H',Same H1 H'→H' D=some (.lst us)→Each (Rel H') (xs.filter tst) us→Q (.ref D) H'):
 z3E J (z9X 0) tt te Q D (z0H fr σ) (upd H1 D (.lst [])):=by
 subst hx
 refine z4I R (fun i acc σ' H'=>(∃o,σ'=(z0H fr σ).set 0 o∨σ'=z0H fr σ)∧Same H1 H'∧H' D=some (.lst acc)∧Each (Rel H') ((xs.take i).filter tst) acc) ⟨⟨none,.inr rfl⟩,z0f hD _,z0d,.nil⟩ ?_ hn ?_ ?_
 ·rintro i acc σ' H' hi ⟨_,hs,_,he⟩
  refine⟨hok _ hs,?_⟩
  rw[←he.length]
  refine q0p (q1q _ _) ?_
  rw[q0o];lia
 ·rintro N i x acc σ' H' H'' hi ⟨hσ,hs,hd,he⟩ ⟨rfl,hx⟩ n1 n2
  have hm:x∈xs:=q0E hx
  have es:σ'.set 0 (some x)=(z0H fr σ).set 0 (some x):=by
   obtain⟨o,e|e⟩:=hσ
   ·rw[e,List.set_set]
   ·rw[e]
  show tt (σ'.set 0 (some x)) _ _
  rw[es]
  have tk:xs.take (i+1)=xs.take i++[x]:=by rw[q0R,hx];rfl
  refine ht x hm _ hs _ fun H3 g3=>?_
  have hs3:=hs.trans g3
  have hd3:=g3 _ _ hd
  have he3:Each (Rel H3) ((xs.take i).filter tst) acc:=he.imp fun a b h=>hrel _ _ _ _ (fun c o _ e=>g3 _ _ e) ⟨_,hd⟩ h
  cases hb:tst x with
  |true=>
   refine z4N ?_
   refine hv x hm hb _ hs3 ⟨_,hd3⟩ _ fun u H4 g4 hr=>?_
   have hd4:=g4 _ _ hd3
   refine n1 _ _ _ hd4 ⟨⟨_,.inl rfl⟩,fun c o e=>?_,z0d,?_⟩
   ·rw[z0l (z0h e hD)];exact g4 _ _ (hs3 _ _ e)
   ·have up:∀a b,Rel H4 a b→Rel (upd H4 D (.lst (acc++[u]))) a b:=fun a b h=>hrel _ _ _ _ (fun c o hc e=>by rw[z0l hc];exact e) ⟨_,hd4⟩ h
    rw[tk,q0W,q1f hb]
    exact ((he3.imp fun a b h=>up a b (hrel _ _ _ _ (fun c o _ e=>g4 _ _ e) ⟨_,hd3⟩ h)).snoc (up _ _ hr))
  |false=>
   refine z1I ?_
   refine n2 _ _ ⟨⟨_,.inl rfl⟩,hs3,hd3,?_⟩
   rw[tk,q0W,q1g (by simp[hb])]
   simpa using he3
 ·rintro acc σ' H' ⟨_,hs,hd,he⟩
  rw[q0T] at he
  exact q acc H' hs hd he
theorem z7i {J:It}{n:Nat}{Ok:Hp→Prop}{xs:List V} (hx:n=xs.length) (R:z6r J n Ok (fun i H x H'=>H'=H∧xs[i]? =some x)) {fr:List (Option Nat)}{tt:TT}{te:TE}{σ:St}{H1:Hp}{Q:VK}{D:Addr} (hD:H1 D=none) (tst:V→Bool) (Rel:Hp→V→V→Prop)
 (hrel:∀H H' x u,(∀b o,b≠D→H b=some o→H' b=some o)→(∃acc,H D=some (.lst acc))→Rel H x u→Rel H' x u)
 (hok:∀H,Same H1 H→Ok H) (hn:n≤sizeLine)
 (ht:∀x∈xs,∀Hc,Same H1 Hc→∀S:Bool→Hp→Prop,(∀H',Same Hc H'→S (tst x) H')→tt ((z0H fr σ).set 0 (some x)) Hc S)
 (hv:∀x∈xs,tst x=true→∀Hc,Same H1 Hc→∀S:VK,(∀u H',Same Hc H'→Rel H' x u→S u H')→te ((z0H fr σ).set 0 (some x)) Hc S)
 (q:∀us H',Same H1 H'→H' D=some (.lst us)→Each (Rel H') (xs.filter tst) us→Q (.ref D) H'):
 z3E J (z9X 0) tt te Q D (z0H fr σ) (upd H1 D (.lst [])):=
 z3z hx R hD tst Rel hrel hok hn ht (fun x hx1 ht1 Hc g1 _=>hv x hx1 ht1 Hc g1) q
end L2
namespace L2
open PySem PySem.Spec PyProof.Rows
theorem z4r {α β:Type}{R:α→β→Prop}{l2 l2':List β} (h:l2'.Perm l2):∀{l1:List α},Paired R l1 l2→∃l1',l1'.Perm l1∧Paired R l1' l2':=by
 induction h with
 |nil=>intro l1 p;cases p;exact⟨[],.nil,.nil⟩
 |cons x _ ih=>
  intro l1 p
  cases p with
  |cons r t=>
   obtain⟨l,h1,h2⟩:=ih t
   exact⟨_::l,h1.cons _,.cons r h2⟩
 |swap x y l=>
  intro l1 p
  cases p with
  |cons r t=>
   cases t with
   |cons r2 t=>exact⟨_,.swap ..,.cons r2 (.cons r t)⟩
 |trans _ _ ih1 ih2=>
  intro l1 p
  obtain⟨l,a,b⟩:=ih2 p
  obtain⟨l',c,d⟩:=ih1 b
  exact⟨l',c.trans a,d⟩
abbrev KR (p:Int×V) (q:Int×Value):Prop:=p.1=q.1∧RelV p.2 q.2
theorem y4j:∀{xs:List V}{us:List Value} (kz:List Int),Vals xs us→Paired KR (kz.zip xs) (kz.zip us)
 |_,_,[],_=>by simp;exact .nil
 |_,_,_::_,.nil =>by simp;exact .nil
 |_,_,k::kz,.cons r t=> .cons ⟨rfl,r⟩ (y4j kz t)
theorem y4k:∀{qs:List (Int×V)}{ps:List (Int×Value)},Paired KR qs ps→Vals (qs.map Prod.snd) (ps.map Prod.snd)
 |_,_,.nil => .nil
 |_,_,.cons r t=> .cons r.2 (y4k t)
theorem y4l:∀{qs:List (Int×V)}{ps:List (Int×Value)},Paired KR qs ps→qs.map Prod.fst=ps.map Prod.fst
 |_,_,.nil =>rfl
 |_,_,.cons r t=>by rw[List.map_cons,List.map_cons,r.1,y4l t]
def EL (a:Addr) (e1:Nat):HO:= .ext fun h=>h.get? a=some (seqObj "list" #[] e1)
theorem EL.ok {P:Program}{w:World}{H:Hp}{h:Heap}{a:Addr}{e1:Nat} (e:h.get? a=some (seqObj "list" #[] e1)):ObjOk P w H h a (EL a e1):=⟨e,⟨_,e⟩,fun h1 h2 q k=>k _ q⟩
theorem z4E:∀{kz:List Int}{us:List Value},Vals (kz.map V.int) us→IntsAre us kz
 |[],_,.nil => .nil
 |k::kz,_,.cons r t=>by
  obtain⟨tk,rfl⟩:=r
  exact .cons k tk (z4E t)
section
variable {X:Cx}{pins:List (Addr×Obj)}{σ:St}{H:Hp}{s:Shared}{A:Around}{E:Value→Shared→Prop}{kS a:Addr}{e1:Nat}{xs:List V}{us:List Value}{kz:List Int}{W:PySem.Fin→Shared→Prop}
theorem z6E {keys:Array Value}{st:SortSt} (I:Inv X pins σ H s) (hK:H kS=some (.lst (kz.map V.int))) (hA:H a=some (EL a e1)) (hk:IntsAre keys.toList kz) (hlen:kz.length=us.length) (h64:us.length<64) (hV:Vals xs us)
 (hp:(arrOf st).Perm (keys.zip us.toArray)) (hs:SortedTo (arrOf st) (arrOf st).size) (hfl:failedOf st=none)
 (q:∀(qs:List (Int×V)) (s':Shared),Inv X pins σ (upd (upd H kS (.lst [])) a (.lst (qs.map Prod.snd))) s'→qs.Perm (kz.zip xs)→qs.Pairwise (fun x y=>x.1≤y.1)→W (.done (.ret .none)) s'):
 wpAny (model X.prog X.w) A (ksk_tail a false e1 (.ref kS) st) W E s:=by
 obtain⟨z,its,n,r,hl,ek⟩:=I.lstM hK
 have nA:s.heap.get? a=some (seqObj "list" #[] e1):=(I.hok a _ hA).1
 have hka:kS≠a:=fun z=>by rw[z,hA] at hK;cases hK
 have I1:=I.lset (its':=[]) (ys:=[]) (f:=fun _=> #[]) (t':=s.toks) hK ek rfl .nil (q0S _)
 have nA1:(s.heap.update kS (Obj.mapSeq fun _=>(#[]:Array Value))).get? a=some (seqObj "list" #[] e1):=(q1m s.heap _ hka).trans nA
 have hu1:(upd H kS (.lst [])) a=some (EL a e1):=by rw[z0l hka.symm];exact hA
 have hsz:keys.size=us.length:=by
  have:=hk.length
  rw[q1z] at this
  lia
 have hsz2:(arrOf st).size =us.length:=by rw[hp.size_eq,Array.size_zip,hsz,q0e,Nat.min_self]
 obtain⟨ps,hp2,ho,hw⟩:=ksk_out (b:=false) hk hp hs
 obtain⟨qs,hq1,hq2⟩:=z4r hp2 (y4j kz hV)
 have out:((arrOf st).map (·.2)).toList =ps.map Prod.snd:=ho
 obtain⟨c2,hc2⟩:∃c2,((s.heap.update kS (Obj.mapSeq fun _=>(#[]:Array Value))).update a (Obj.mapSeq fun _=>(arrOf st).map (·.2))).get? a=some (seqObj "list" ((arrOf st).map (·.2)) c2):=⟨_,get?_update_seq nA1 fun _=>(arrOf st).map (·.2)⟩
 have hle:qs.length=us.length:=by
  rw[hq1.length_eq,q0Q,hV.length];lia
 unfold ksk_tail
 dsimp only
 refine wpAny_bind (listUpdate_at ek rfl ?_ (by rw[q0e,←hl];exact z) (q0S _))
 refine wpAny_bind (wpAny_letGo ?_)
 refine wpAny_bind (seqEpoch_at nA1 rfl ?_)
 refine wpAny_bind (listUpdate_at nA1 rfl ?_ (q0S _) (q0p (Nat.le_of_eq (by show (Array.map _ (arrOf st)).size =us.length;rw[Array.size_map];exact hsz2)) (by rw[sizeLine_eq];lia)))
 rw[hfl]
 simp only[bne_self_eq_false,Bool.false_eq_true,if_false]
 refine wpAny_pure (q qs _ ?_ hq1 ?_)
 ·refine I1.write (x:=a) (e:=a) (t':=s.toks) (by rw[hu1];exact trivial) (.inl rfl) (fun b u hb hu=>(q1m _ _ (Ne.symm hb)).trans hu) ⟨_,hc2⟩ ?_
  refine⟨by rw[q0a,hle,sizeLine_eq];lia,ps.map Prod.snd,c2,y4k hq2,?_⟩
  rw[hc2,←out,Array.toArray_toList]
 ·have e1:=y4l hq2
  have hw':ps.Pairwise fun x y=>x.1≤y.1:=hw
  have w1:(ps.map Prod.fst).Pairwise (· ≤ ·):=by rw[q1e];exact hw'
  rw[←e1,q1e] at w1
  exact w1
theorem y2M {keys:Array Value} (I:Inv X pins σ H s) (hK:H kS=some (.lst (kz.map V.int))) (hA:H a=some (EL a e1)) (hk:IntsAre keys.toList kz) (hlen:kz.length=us.length) (h64:us.length<64) (hV:Vals xs us)
 (q:∀(qs:List (Int×V)) (s':Shared),Inv X pins σ (upd (upd H kS (.lst [])) a (.lst (qs.map Prod.snd))) s'→qs.Perm (kz.zip xs)→qs.Pairwise (fun x y=>x.1≤y.1)→W (.done (.ret .none)) s'):
 wpAny (model X.prog X.w) A (ksk_end a false us.toArray e1 (.ref kS) keys) W E s:=by
 have hsz:keys.size=us.length:=by
  have:=hk.length
  rw[q1z] at this
  lia
 have hzs:(keys.zip us.toArray).size =us.length:=by rw[Array.size_zip,hsz,q0e,Nat.min_self]
 unfold ksk_end
 dsimp only
 simp only[Bool.false_eq_true,if_false]
 by_cases h2:us.toArray.size<2
 ·rw[if_pos h2,if_pos h2]
  refine wpAny_bind (wpAny_pure ?_)
  rw[StateT.run_pure]
  refine wpAny_bind (wpAny_pure ?_)
  dsimp only
  refine z6E (st:=SortSt.mk' general' (keys.zip us.toArray) #[] 7 none) I hK hA hk hlen h64 hV (Array.Perm.refl _) (fun i j hij hj=>?_) rfl q
  have hj2:j<(keys.zip us.toArray).size :=hj
  rw[hzs] at hj2
  rw[q0e] at h2
  have:i=j:=by lia
  rw[this]
  exact Int.le_refl _
 ·rw[if_neg h2,if_neg h2]
  rw[q0e] at h2
  rw[ksk_kind hk (by rw[hsz];lia)]
  refine wpAny_bind (wpAny_pure ?_)
  refine wpAny_bind (wpAny_mono (wpS_sortRuns (a₀:=keys.zip us.toArray) (st:=SortSt.mk' oneType' (keys.zip us.toArray) #[] 7 none)
   (Q:=fun _ st'=>(arrOf st').Perm (keys.zip us.toArray)∧failedOf st'=none∧SortedTo (arrOf st') (keys.zip us.toArray).size)
   (ksk_intKeys hk) ⟨Array.Perm.refl _,rfl,rfl,rfl⟩ (by rw[hzs];lia) (by rw[hzs];exact h64) fun st' a1 a2 a3=>⟨a1,a2,a3⟩) ?_ fun _ _ e=>e)
  rintro⟨⟨⟩,st'⟩ s' ⟨rfl,hp,hf,hs⟩
  dsimp only
  exact z6E I hK hA hk hlen h64 hV hp (by rw[hp.size_eq];exact hs) hf q
theorem y0L {f:Value} (I:Inv X pins σ H s) (hK:H kS=some (.lst [])) (hA:H a=some (EL a e1)) (hlen:kz.length=us.length) (h64:us.length<64) (hV:Vals xs us)
 (turn:∀(i:Nat) (x:V) (u:Value) (k:Int),xs[i]? =some x→us[i]? =some u→kz[i]? =some k→∀(H1:Hp) (s1:Shared),Inv X pins σ H1 s1→(∀b o,b≠kS→H b=some o→H1 b=some o)→
  wpAny (model X.prog X.w) A (call f [u]) (fun v s2=>∃H2 t,Inv X pins σ H2 s2∧v= .int k t∧Same H1 H2) (fun _ _=>False) s1)
 (q:∀(H1:Hp) (qs:List (Int×V)) (s':Shared),(∀b o,b≠kS→H b=some o→H1 b=some o)→Inv X pins σ (upd (upd H1 kS (.lst [])) a (.lst (qs.map Prod.snd))) s'→qs.Perm (kz.zip xs)→qs.Pairwise (fun x y=>x.1≤y.1)→W (.done (.ret .none)) s'):
 wpAny (model X.prog X.w) A (ksk_rest a f false us.toArray e1 (.ref kS)) W E s:=by
 have hka:a≠kS:=fun z=>by rw[←z,hA] at hK;cases hK
 unfold ksk_rest
 refine wpAny_bind (wpAny_rule ?_)
 first
  |rw[List.forIn_toArray]
  |(rw[←Array.forIn_toList];simp only[List.toList_toArray])
  |rw[←Array.forIn_toList]
 refine wpAny_bind (ksk_fold (fun i s'=>∃H1,Inv X pins σ H1 s'∧(∀b o,b≠kS→H b=some o→H1 b=some o)∧H1 kS=some (.lst ((kz.take i).map V.int))) us 0 s ⟨H,I,fun _ _ _ e=>e,hK⟩ ?step ?done)
 case step=>
  rintro j u s' hu ⟨H1,I1,g1,k1⟩
  simp only[Nat.zero_add] at k1 ⊢
  have hj:j<us.length:=(q0t.mp hu).1
  obtain⟨k,hkj⟩:∃k,kz[j]? =some k:=⟨_,q0c (by lia)⟩
  obtain⟨x,hx⟩:∃x,xs[j]? =some x:=⟨_,q0c (by rw[hV.length];exact hj)⟩
  refine wpAny_bind (wpAny_attempt (wpAny_mono (turn j x u k hx hu hkj H1 s' I1 g1) (fun v s'' he=>?_) fun _ _ hF=>hF.elim))
  obtain⟨H2,t,I2,rfl,g2⟩:=he
  dsimp only
  have k2:=g2 _ _ k1
  obtain⟨z,its,n,r,hl,ek⟩:=I2.lstM k2
  have ek2:kz.take (j+1)=kz.take j++[k]:=by rw[q0R,hkj];rfl
  have hl2:its.length≤us.length:=by rw[←hl,q0a,q0o];lia
  refine wpAny_bind (listUpdate_at ek rfl ?_ (by rw[q0e,sizeLine_eq];lia) (by rw[Array.size_push,q0e,sizeLine_eq];lia))
  refine wpAny_pure ⟨rfl,upd H2 kS (.lst ((kz.take (j+1)).map V.int)),?_,fun b o hb e=>?_,z0d⟩
  ·refine I2.lset (its':=its++[.int k t]) (f:=(·.push (.int k t))) (t':=_) k2 ek (by simp) ?_ ?_
   ·rw[ek2,q0x]
    exact r.append (.cons ⟨t,rfl⟩ .nil)
   ·rw[q0a,q0o,sizeLine_eq];lia
  ·rw[z0l hb];exact g2 _ _ (g1 b o hb e)
 case done=>
  rintro s' ⟨H1,I1,g1,k1⟩
  have e3:kz.take (0+us.length)=kz:=List.take_of_length_le (by lia)
  rw[e3] at k1
  obtain⟨z,its,n,r,hl,ek⟩:=I1.lstM k1
  try dsimp only
  refine wpAny_bind (listItems_at ek rfl ?_)
  exact y2M I1 k1 (g1 _ _ hka hA) (by rw[List.toList_toArray];exact z4E r) hlen h64 hV fun qs s2 I2 p1 p2=>q H1 qs s2 g1 I2 p1 p2
end
section
variable {X:Cx}{pins:List (Addr×Obj)}{σ:St}{H:Hp}{s:Shared}{k:Nat}{g l:Addr}{gd:FuncData}{ps:List Str}{sp:Sp}{xs:List V}{kz:List Int}
theorem y0V {Q:VK} (Fn:FnOk X.prog X.w X.K X.mg X.base CX0 k g gd ps sp) (hr:Room (k+2) X.A) (hb:Binds X.K gd ps []) (I:Inv X pins σ H s) (hl:H l=some (.lst xs)) (hk:kz.length=xs.length) (h64:xs.length<64)
 (turn:∀(i:Nat) (x:V) (n:Int),xs[i]? =some x→kz[i]? =some n→∀H1,Same H H1→sp [x] H1 (fun v H2=>v= .int n∧Same H1 H2) E0)
 (q:∀(D:Addr) (qs:List (Int×V)) (H':Hp),H D=none→Same H H'→qs.Perm (kz.zip xs)→qs.Pairwise (fun x y=>x.1≤y.1)→H' D=some (.lst (qs.map Prod.snd))→Q (.ref D) H'):
 wpAny (model X.prog X.w) X.A (call (.builtin "sorted") [.ref l] [(Str.ofString "key",.ref g)]) (EP X pins σ Q) X.xe s:=by
 obtain⟨z,us,n,hV,hlen,el⟩:=I.lstM hl
 refine call_function_entry_kw kind_sorted plain_sorted entry_sorted (ksk_s1 _ _) ?_
 unfold Builtin.«sorted»
 refine wpAny_bind (m:=checkCount "sorted" 1 1 _) (wpAny_pure ?_)
 refine wpAny_bind (collect_list (vs:=us) ⟨_,el,rfl,_,rfl⟩ ?_ (by rw[←hlen];exact z))
 refine wpAny_bind (wpAny_newList ?_ (by rw[←hlen];exact z))
 have hsz:((s.heap.push (seqObj "list" #[] 0)).update s.heap.objs.size (Obj.mapSeq (· ++us.toArray))).objs.size =s.heap.objs.size+1:=by
  rw[Heap.size_update,size_push']
 have hoL:(((s.heap.push (seqObj "list" #[] 0)).update s.heap.objs.size (Obj.mapSeq (· ++us.toArray))).push (seqObj "list" us.toArray 0)).get? (s.heap.objs.size+1)=some (seqObj "list" us.toArray 0):=by
  rw[←hsz];exact q0s _ rfl
 have keep:∀b o,s.heap.get? b=some o→(((s.heap.push (seqObj "list" #[] 0)).update s.heap.objs.size (Obj.mapSeq (· ++us.toArray))).push (seqObj "list" us.toArray 0)).get? b=some o:=fun b o e=>by
  have hlt:b<s.heap.objs.size:=q0q e
  rw[Heap.get?_push_ne _ _ _ (by rw[hsz];exact q0w (q1d hlt)),Heap.get?_update_ne _ _ _ _ (q0w hlt),Heap.get?_push_ne _ _ _ (q0w hlt)]
  exact e
 have fr1:H (s.heap.objs.size+1)=none:=I.hok.fresh (q1v _)
 have I1:=I.laid (a:=s.heap.objs.size+1) (o:= .lst xs) (t':=s.toks) keep (q1v _) ⟨z,us,0,hV,hoL⟩
 show wpAny _ _ _ _ _ {s with heap:=((s.heap.push (seqObj "list" #[] 0)).update s.heap.objs.size (Obj.mapSeq (· ++us.toArray))).push (seqObj "list" us.toArray 0)}
 rw[hsz]
 generalize hD:s.heap.objs.size+1=D at*
 generalize hh1:((s.heap.push (seqObj "list" #[] 0)).update s.heap.objs.size (Obj.mapSeq (· ++us.toArray))).push (seqObj "list" us.toArray 0)=h1 at*
 refine wpAny_bind (wpAny_holding (wpAny_call_entry_kw slot_list_sort ⟨_,hoL,rfl⟩ entry_list_sort ?body (ksk_l1 _ _)))
 case body=>
  show wpAny (model X.prog X.w) X.A.in1.in1 (Builtin.«list.sort» ⟨[.ref D],[(Str.ofString "key",.ref g)]⟩) _ _ _
  rw[ksk_t1]
  unfold ksk_tree
  refine wpAny_bind (listItems_at hoL rfl ?_)
  refine wpAny_bind (listUpdate_at hoL rfl ?_ (by rw[q0e,←hlen];exact z) (q0S _))
  obtain⟨e1,ho1⟩:∃e1,(h1.update D (Obj.mapSeq fun _=>(#[]:Array Value))).get? D=some (seqObj "list" #[] e1):=⟨_,get?_update_seq hoL fun _=> #[]⟩
  have I2:=I1.write (x:=D) (e:=D) (o:=EL D e1) (h':=h1.update D (Obj.mapSeq fun _=>(#[]:Array Value))) (t':=s.toks) (by rw[z0d];exact trivial) (.inl rfl) (fun b u hb hu=>(q1m _ _ (Ne.symm hb)).trans hu) ⟨_,ho1⟩ (EL.ok ho1)
  rw[y0o] at I2
  generalize h1.update D (Obj.mapSeq fun _=>(#[]:Array Value))=h2 at*
  refine wpAny_bind (seqEpoch_at ho1 rfl ?_)
  refine wpAny_bind (wpAny_newTuple ?_ (by rw[List.toList_toArray,←hlen];exact z))
  refine wpAny_bind (wpAny_newList ?_ (q0S _))
  refine wpAny_holding ?_
  have I3:=I2.kept (h':=h2.push (seqObj "tuple" us.toArray 0)) (t':=s.toks) (fun b u e=>q0d _ e)
  have I4:=I3.laid (a:=(h2.push (seqObj "tuple" us.toArray 0)).objs.size) (o:= .lst []) (h':=(h2.push (seqObj "tuple" us.toArray 0)).push (seqObj "list" #[] 0)) (t':=s.toks) (fun b u e=>q0d _ e) (q0j _) ⟨q0S _,[],0,.nil,q0s _ rfl⟩
  have fr2:upd H D (EL D e1) (h2.push (seqObj "tuple" us.toArray 0)).objs.size =none:=I3.hok.fresh (q0j _)
  generalize (h2.push (seqObj "tuple" us.toArray 0)).objs.size =kS at*
  generalize hh4:(h2.push (seqObj "tuple" us.toArray 0)).push (seqObj "list" #[] 0)=h4 at*
  have hDk:D≠kS:=fun e=>by rw[←e,z0d] at fr2;cases fr2
  have hHk:H kS=none:=by rw[z0l hDk.symm] at fr2;exact fr2
  have key:∀H1:Hp,(∀b o,b≠kS→upd (upd H D (EL D e1)) kS (.lst []) b=some o→H1 b=some o)→Same H H1:=fun H1 gg b o e=>gg b o (z0h e hHk) (by rw[z0l (z0h e hHk),z0l (z0h e fr1)];exact e)
  refine y0L (kS:=kS) (a:=D) (e1:=e1) (kz:=kz) (xs:=xs) I4 z0d (by rw[z0l hDk,z0d]) (by rw[hk,hlen]) (by rw[←hlen];exact h64) hV (fun i x u n hx hu hn H1 s1 J1 g1=>?_) fun H1 qs s2 g1 J2 p1 p2=>⟨_,rfl,?_⟩
  ·have hq:=turn i x n hx hn H1 (key H1 g1)
   obtain⟨u',hu',rxu⟩:=hV.get hx
   rw[hu] at hu'
   cases hu'
   have hll:([u]++[]:List Value).length =ps.length:=by
        have:=Fn.len _ _ _ _ hq
        rw[←this];rfl
   have hbb:=hb s1 [u] J1.kIn hll
   rw[List.append_nil] at hbb
   refine wpAny_call (codeAny_mono (Fn.run X.A.in1.in1 X.stack s1 H1 ⟨[u],[]⟩ [u] [x] _ E0 hr.in1.in1 J1.env0.in1.in1 hbb (.cons rxu .nil) hq) fun rr s' hq'=>?_)
   cases rr with
   |error ev=>exact hq'.elim
   |ok fl=>
    cases fl with
    |ret w'=>
     obtain⟨v,H2,J2,rv,ev,g2⟩:=J1.after hq'
     subst ev
     obtain⟨t,rfl⟩:=rv
     exact⟨H2,t,J2,rfl,g2⟩
    |next=>exact False.elim hq'
    |brk=>exact False.elim hq'
    |cont=>exact False.elim hq'
  ·refine wpAny_pure ⟨_,rfl,?_⟩
   refine⟨.ref D,_,J2,rfl,q D qs _ fr1 (fun b o e=>?_) p1 p2 z0d⟩
   rw[z0l (z0h e fr1),z0l (z0h e hHk)]
   exact key H1 g1 b o e
def y4b (sp:Sp):V→Hp→VK→Prop:=fun x H Q=>∃(l:Addr) (xs:List V) (kz:List Int),x= .ref l∧H l=some (.lst xs)∧kz.length=xs.length∧xs.length<64∧(∀(i:Nat) (x:V) (n:Int),xs[i]? =some x→kz[i]? =some n→∀H1,Same H H1→sp [x] H1 (fun v H2=>v= .int n∧Same H1 H2) E0)∧
 ∀(D:Addr) (qs:List (Int×V)) (H':Hp),H D=none→Same H H'→qs.Perm (kz.zip xs)→qs.Pairwise (fun x y=>x.1≤y.1)→H' D=some (.lst (qs.map Prod.snd))→Q (.ref D) H'
def y5V (sp:Sp) (ta:TE):TE:=fun σ H Q=>ta σ H fun x H1=>y4b sp x H1 Q
def oneQ (sp:Sp) (Q:VK):List V→Hp→Prop:=fun vs H=>match vs with
 |[x]=>y4b sp x H Q
 |_=>False
theorem y3e {f:Str}{p p2 kp pos:Pos}{e:Expr}{te:TE} (c:Cal X.prog X.w X.K X.mg X.base k f ps sp) (hr:Room (k+2) X.A) (hg:Gl X "sorted") (hm:X.mg "sorted"=none) (hgf:Gl X f) (ha:PE X e te) (hd:(f==("__debug__":Str))=false:=by decide)
 (he:starEach [e] X.env=(false,eval e X.env)::starEach [] X.env:=by rfl):PE X (.Call (.Name "sorted" p) [e] [⟨some (Str.ofString "key"),.Name f p2,kp⟩] pos) (y5V sp te):=by
 intro pins s σ H Q I h
 obtain⟨g,gd,F,b,kk,m⟩:=c.ex
 refine wpAny_Call_Name_kw (z3D I hg hm boot_sorted ?_)
 refine callWith_kw (thn (z0a ha z0c he pos pins s σ H (oneQ sp Q) I h) fun us s1 ⟨vs,H1,I1,r1,q1⟩=>?_) (by rw[he];rfl) (by rw[he];rfl)
 match vs,q1 with
 |[x],⟨l,xs,kz,e1,e2,e3,e4,e5,e6⟩=>
  subst e1
  have PKf:PK X [⟨some (Str.ofString "key"),.Name f p2,kp⟩] (y4D (tC (.ref g)) tNil):=y4R (y4U hgf m rfl hd) y6l
  refine thn (PKf pos pins s1 σ H1 (fun zs H2=>zs=[.ref g]∧H2=H1) I1 ⟨rfl,rfl⟩) fun ws s2 ⟨zs,H2,I2,rz,ez,eh⟩=>?_
  subst ez eh
  obtain⟨u,rfl,ru⟩:=r1.one
  obtain⟨w',rfl,rw'⟩:=rz.one
  cases ru
  cases rw'
  exact y0V F hr b I2 e2 e3 e4 e5 e6
end
end L2
namespace L2
open PySem PySem.Spec PyProof.Rows PySem.MeetsSeq
section
variable {X:Cx}{K:PySem.W.Frag}
end
end L2
namespace L2
open PySem PySem.Spec PyProof.Rows
section
variable {X:Cx}{tg iter elt:Expr}{ifs:List Expr}{scope:Scope}{pos:Pos}{cl:List (Str×Addr)}{Nc:List Str}{fr:List (Option Nat)}{wi:TI}{g:TG}{tt:TT}{te:TE}
end
end L2
namespace L2
open PySem PySem.Spec PyProof.Rows
open Builtin.Int (intBits)
def LsA (H:Hp) (as:List Addr) (ts:List (List Int)):Prop:=as.length=ts.length∧∀(i:Nat) (a:Addr) (t:List Int),as[i]? =some a→ts[i]? =some t→H a=some (.lst (t.map V.int))
theorem LsA.same {H H':Hp}{as:List Addr}{ts:List (List Int)} (g:Same H H') (h:LsA H as ts):LsA H' as ts:=⟨h.1,fun i a t e1 e2=>g _ _ (h.2 i a t e1 e2)⟩
theorem z7h {H1 H':Hp}{G F:List V→HO}{g:List Int→List Int} (inj:∀xs ys,G xs=G ys→xs=ys) {as:List Addr}{ts:List (List Int)}{us:List V} (hl:as.length=ts.length) (h:∀(i:Nat) (a:Addr) (t:List Int),as[i]? =some a→ts[i]? =some t→H1 a=some (G (t.map V.int)))
 (e:Each (fun x u=>∃(a:Addr) (t:List Int) (p:Addr),x=V.ref a∧u=V.ref p∧H1 a=some (G (t.map V.int))∧H' p=some (F ((g t).map V.int))) (as.map V.ref) us):
 ∃as':List Addr,us=as'.map V.ref∧as'.length=(ts.map g).length ∧∀(i:Nat) (a:Addr) (t:List Int),as'[i]? =some a→(ts.map g)[i]? =some t→H' a=some (F (t.map V.int)):=by
 induction us generalizing as ts with
 |nil=>
  have:=e.length
  rw[q0a] at this
  have h0:as=[]:=q0V.mp this
  subst h0
  have h1:ts=[]:=q0V.mp (by rw[←hl];rfl)
  subst h1
  exact⟨[],rfl,rfl,fun i a t e=>by simp at e⟩
 |cons u us ih=>
  cases as with
  |nil=>cases e
  |cons a as=>
   cases ts with
   |nil=>simp at hl
   |cons t ts=>
    cases e with
    |cons e1 e2=>
     obtain⟨b,t',p,hb,rfl,h1,h2⟩:=e1
     cases hb
     have ht:=h 0 a t rfl rfl
     rw[ht] at h1
     have et:t=t':=by
      have z:t.map V.int=t'.map V.int:=inj _ _ (Option.some.inj h1)
      exact List.map_inj_right (fun x y h=>by injection h) |>.mp z
     subst et
     obtain⟨as',rfl,hh1,hh2⟩:=ih (by simpa using hl) (fun i b u e1 e2=>h (i+1) b u (by simpa using e1) (by simpa using e2)) e2
     refine⟨p::as',rfl,by simpa using hh1,fun i b u e1 e2=>?_⟩
     cases i with
     |zero=>cases e1;cases e2;exact h2
     |succ i=>exact hh2 i b u (by simpa using e1) (by simpa using e2)
namespace Rk
end Rk
end L2
namespace L2
namespace Rk
open Wl
theorem v_map {c:Int} (rs:List Int) (j:Nat):v (rs.map fun n=>c*n) j=c*v rs j:=by
 show (rs.map fun n=>c*n).getD j 0=c*rs.getD j 0
 rw[q0b,q0b,q0h]
 cases rs[j]? with
 |none=>simp
 |some n=>rfl
theorem y4i:∀r:List Int,z0N r=v r (fp r)
 |[]=>rfl
 |n::r=>by
  by_cases h0:n=0
  ·have e:z0N (n::r)=z0N r:=if_pos h0
   have e2:fp (n::r)=fp r+1:=by unfold fp;rw[List.findIdx_cons,h0];rfl
   rw[e,e2,y4i r];rfl
  ·have e:z0N (n::r)=n:=if_neg h0
   have e2:fp (n::r)=0:=by unfold fp;rw[List.findIdx_cons,show (n != 0)=true from by simpa using h0];rfl
   rw[e,e2];rfl
end Rk
end L2
namespace L2
namespace Rk
open Wl
theorem z8J {r:List Int} (h:∃n∈r,n≠0) (hp:z0n r=r):byL r=1:=by
 have e:=z2z (r:=r) (fp r)
 rw[hp] at e
 have n0:=z2d h
 have:v r (fp r)*byL r=v r (fp r)*1:=by rw[Int.mul_one];exact e
 exact q1E n0 this
theorem z6K {r:List Int} (h:∃n∈r,n≠0) (hp:z0n r=r):(z1J r:Int)=1:=by
 have hb:=z8J h hp
 unfold byL at hb
 have hg:=z1W h
 split at hb<;>lia
theorem mem_v {r:List Int}{n:Int} (h:n∈r):∃j,v r j=n:=by
 obtain⟨j,hj,e⟩:=q0I.mp h
 refine⟨j,?_⟩
 show r.getD j 0=n
 rw[q0b,q0c hj,e];rfl
theorem v_ext {r s:List Int} (hl:r.length=s.length) (h:∀j,v r j=v s j):r=s:=by
 refine List.ext_getElem hl fun j h1 h2=>?_
 have:=h j
 have e1:v r j=r[j]:=by
  show r.getD j 0=_
  rw[q0b,q0c h1];rfl
 have e2:v s j=s[j]:=by
  show s.getD j 0=_
  rw[q0b,q0c h2];rfl
 rw[←e1,←e2,this]
theorem z8S {a b:Int} (ha:0<a):∀(r:List Int) (g0:Nat),b∣a*(g0:Int)→(∀n∈r,b∣a*n)→b∣a*((r.foldl (fun (g:Nat) n=>Int.gcd (g:Int) n) g0:Nat):Int)
 |[],g0,h,_=>h
 |n::r,g0,h,hr=>by
  rw[q1G]
  refine z8S ha r _ ?_ fun m hm=>hr m (q0f _ hm)
  have h1:b∣((Int.gcd (a*(g0:Int)) (a*n):Nat):Int):=Int.dvd_coe_gcd h (hr n q0k)
  rw[Int.gcd_mul_left] at h1
  rw[Int.natCast_mul,Int.natAbs_of_nonneg (by lia)] at h1
  exact h1
theorem y1g {r s:List Int}{a b:Int} (hl:r.length=s.length) (hr:∃n∈r,n≠0) (hs:∃n∈s,n≠0) (pr:z0n r=r) (ps:z0n s=s) (ha:0<a) (hb:0<b) (h:∀j,a*v r j=b*v s j):r=s:=by
 have g1:=z6K hr pr
 have g2:=z6K hs ps
 have d:∀{r s:List Int}{a b:Int},0<a→(z1J r:Int)=1→(∀j,a*v r j=b*v s j)→b∣a:=fun {r s a b} a0 g h=>by
  have:=z8S a0 r 0 (by simp) fun n hn=>by
   obtain⟨j,rfl⟩:=mem_v hn
   exact⟨v s j,h j⟩
  have e:((r.foldl (fun (g:Nat) n=>Int.gcd (g:Int) n) 0:Nat):Int)=1:=g
  rw[e,Int.mul_one] at this
  exact this
 have d1:=d ha g1 h
 have d2:=d hb g2 fun j=>(h j).symm
 have e:a=b:=Int.dvd_antisymm (by lia) (by lia) d2 d1
 subst e
 exact v_ext hl fun j=>q1E (by lia) (h j)
end Rk
end L2
namespace L2
open PySem PySem.Spec PyProof.Rows
section
variable {X:Cx}{K:PySem.W.Frag}
def cSum (K:PySem.W.Frag):List V→Hp→VK→Prop:=fun xs H Q=>∃(p:Addr) (ns:List Int),xs=[.ref p]∧SqL K H p (ns.map V.int)∧Q (.int ns.sum) H
theorem z7j (hK:X.K=K) (hc:X.calm=true):z2t X (.builtin "sum") (cSum K):=by
 subst hK
 intro pins s σ H xs us Q I r h
 obtain⟨p,ns,rfl,hq,q⟩:=h
 obtain⟨u,rfl,rx⟩:=r.one
 cases rx
 obtain⟨its,r',pl,hz⟩:=I.list hq
 have hi:=z4E r'
 have hl:=pl.isList
 have hn:numsOf its.toArray.toList=ns:=by rw[show its.toArray.toList=its from rfl,hi.numsOf]
 obtain⟨zs,e⟩:=hi.allInts.items
 rw[e] at hl hn
 rw[nums_intItems] at hn
 refine sum_intListG (I.ok.hd hc) hl fun h' tk t' hk=>?_
 refine⟨.int ns.sum,H,I.kept (t':=tk) hk,⟨t',?_⟩,q⟩
 rw[preSum_eq,List.take_of_length_le (by simp)]
 rw[←hn]
end
end L2
namespace L2
open PySem PySem.Spec PyProof.Rows
open Builtin.Int (intBits)
namespace Rk
open Wl
theorem y0f {rs:List Int}{k:Nat} (h:∃n∈rs,n≠0) (hb:∀n∈rs,intBits n≤k):∀n∈z0n rs,intBits n≤k:=fun n hn=>by
 unfold z0n at hn
 obtain⟨x,hx,rfl⟩:=q0g.mp hn
 exact intBits_le_of_natAbs (z1Z (z2D hx) (z2Q h)) (hb x hx)
end Rk
end L2
namespace L2
open PySem PySem.Spec PyProof.Rows
open Builtin.Int (intBits)
namespace Rk
open Wl
def dd (acc l:List (List Int)):List (List Int):=l.foldl (fun acc t=>if t∈acc then acc else acc++[t]) acc
theorem y4r (acc:List (List Int)):dd acc []=acc:=rfl
theorem y5D (acc l:List (List Int)) (t:List Int):dd acc (l++[t])=if t∈dd acc l then dd acc l else dd acc l++[t]:=by
 unfold dd
 rw[List.foldl_append];rfl
theorem y2n {x:List Int}:∀(l acc:List (List Int)),x∈dd acc l↔x∈acc∨x∈l
 |[],acc=>by simp[y4r]
 |t::l,acc=>by
  have:dd acc (t::l)=dd (if t∈acc then acc else acc++[t]) l:=rfl
  rw[this,y2n l]
  by_cases ht:t∈acc
  ·rw[if_pos ht,q0r]
   constructor
   ·rintro (h|h)
    ·exact .inl h
    ·exact .inr (.inr h)
   ·rintro (h|rfl|h)
    ·exact .inl h
    ·exact .inl ht
    ·exact .inr h
  ·rw[if_neg ht,q0H,q0m,q0r]
   grind
theorem y4s:∀(l acc:List (List Int)),(dd acc l).length ≤acc.length+l.length
 |[],acc=>by rw[y4r];simp
 |t::l,acc=>by
  have:dd acc (t::l)=dd (if t∈acc then acc else acc++[t]) l:=rfl
  rw[this]
  have:=y4s l (if t∈acc then acc else acc++[t])
  rw[q0F]
  split at this
  ·rw[if_pos (by assumption)];lia
  ·rw[if_neg (by assumption)];rw[q0n,q0Y] at this;lia
end Rk
end L2
namespace L2
namespace Dm
open Rk
end Dm
end L2
namespace L2
namespace Pt
open Rk
end Pt
end L2
namespace L2
namespace Dm
open Rk Wl
end Dm
end L2
namespace L2
namespace Pt
open Rk Wl
end Pt
end L2
namespace L2
namespace Pt
open Rk Wl Dm
end Pt
end L2
set_option maxHeartbeats 4000000
namespace L2
namespace Pt
open Rk Wl Dm
def skp (pl c:Nat):Nat:=if c<pl then c else c+1
def Drw (pl m:Nat) (t u d:List Int) (k:Int):Prop:=∀c,c<m→k*v d c=v t pl*v u (skp pl c) - v u pl*v t (skp pl c)
end Pt
end L2
namespace L2
namespace Pt
open Rk Wl Dm
end Pt
end L2
namespace L2
namespace Pt
open Rk Wl Dm
def z2I (pl:Nat) (z:Int) (y:List Int):List Int:=y.take pl++z::y.drop pl
theorem y6L {m pl:Nat}{x:List Int} (hpl:pl<m+1) (hx:x.length=m+1):x=z2I pl (v x pl) (x.eraseIdx pl):=by
 unfold z2I
 have e:v x pl=x[pl]'(by lia):=by
  show x.getD pl 0=_
  rw[q0b,q0c (by lia)];rfl
 rw[e,List.eraseIdx_eq_take_drop_succ,List.take_append_of_le_length (by rw[q0o];lia),List.take_take,Nat.min_self,List.drop_append_of_le_length (by rw[q0o];lia)]
 rw[show (x.take pl).drop pl=[] from List.drop_eq_nil_of_le (by rw[q0o];lia),List.nil_append]
 rw[←List.drop_eq_getElem_cons (by lia),q1A]
def drR (t u:List Int):List Int:=(z0r u t).eraseIdx (fp t)
def drF (t u:List Int):Option (List Int):=if (drR t u).dropLast.any (· != 0) then some (z0n (drR t u)) else none
def wd (F:List Int→Option (List Int)) (ts:List (List Int)):List (List Int):=dd [] (ts.filterMap F)
theorem z2u (l:List Int) (pl c:Nat):v (l.eraseIdx pl) c=v l (skp pl c):=by
 show (l.eraseIdx pl).getD c 0=l.getD (skp pl c) 0
 rw[q0b,q0b,List.getElem?_eraseIdx]
 unfold skp
 split<;>rfl
theorem y2i {m:Nat}{t u:List Int} (hl:u.length=t.length) (hn:∃n∈t,n≠0):Drw (fp t) m t u (drR t u) (Int.gcd (v t (fp t)) (v u (fp t)):Nat):=by
 intro c _
 unfold drR
 rw[z2u,z1Q hl]
 have e1:z4M u t*((Int.gcd (v t (fp t)) (v u (fp t)):Nat):Int)=v t (fp t):=fdiv_mul (q1j ..)
 have e2:z2c u t*((Int.gcd (v t (fp t)) (v u (fp t)):Nat):Int)=v u (fp t):=fdiv_mul (q1I ..)
 generalize ((Int.gcd (v t (fp t)) (v u (fp t)):Nat):Int)=g at*
 rw[←e1,←e2]
 grind
theorem z2C {t u:List Int} (hl:u.length=t.length) (hn:∃n∈t,n≠0):(drR t u).length +1=t.length:=by
 unfold drR
 have:=y3F hn
 rw[List.length_eraseIdx,if_pos (by rw[z1q hl];lia),z1q hl]
 lia
end Pt
end L2
namespace L2
namespace Pt
open Rk Wl Dm
structure WL (m:Nat) (t:List Int):Prop where
 len:t.length=m+1
 pl:z0n t=t
 way:∃j,j<m∧v t j≠0
theorem z6u {t:List Int}{j:Nat} (h:v t j≠0):j<t.length∧v t j∈t:=by
 have h':t.getD j 0≠0:=h
 rw[q0b] at h'
 cases e:t[j]? with
 |none=>rw[e] at h';exact absurd rfl h'
 |some n=>
  have hv:v t j=n:=by show t.getD j 0=n;rw[q0b,e];rfl
  exact⟨(q0t.mp e).1,by rw[hv];exact q0E e⟩
theorem WL.nz {m:Nat}{t:List Int} (h:WL m t):∃n∈t,n≠0:=let ⟨_,_,hj⟩:=h.way;⟨_,(z6u hj).2,hj⟩
theorem WL.fp {m:Nat}{t:List Int} (h:WL m t):fp t<m:=by
 obtain⟨j,hj,hn⟩:=h.way
 refine q0l fun c=>hn (z1g (r:=t) (by lia))
theorem WL.pos {m:Nat}{t:List Int} (h:WL m t):0<v t (Rk.fp t):=by
 have h1:=z8J h.nz h.pl
 have h2:=z6d h.nz
 rw[←y4i]
 unfold byL at h1
 split at h1
 ·have:=z1W h.nz;lia
 ·lia
theorem z1K {m:Nat}{l:List Int} (hl:l.length=m+1):l.dropLast.any (· != 0)=true↔∃j,j<m∧v l j≠0:=by
 rw[q1c]
 have hg:∀j,j<m→l.dropLast[j]? =l[j]? :=fun j hj=>by rw[List.getElem?_dropLast,if_pos (by lia)]
 constructor
 ·rintro⟨n,hn,h0⟩
  obtain⟨j,hj⟩:=List.mem_iff_getElem?.mp hn
  have hjm:j<m:=by
   have:=(q0t.mp hj).1
   rw[q1a] at this;lia
  rw[hg j hjm] at hj
  refine⟨j,hjm,?_⟩
  show l.getD j 0≠0
  rw[q0b,hj]
  simpa using h0
 ·rintro⟨j,hj,h0⟩
  have h1:=(z6u h0).1
  have e:l[j]? =some (v l j):=by
   rw[q0c h1]
   show _=some (l.getD j 0)
   rw[q0b,q0c h1];rfl
  exact⟨v l j,q0E (by rw[hg j hj];exact e),by simpa using h0⟩
theorem gcd0 {a b:Int} (h:a≠0):((Int.gcd a b:Nat):Int)≠0:=z7d h
theorem y2h {m:Nat}{t:List Int} (h:WL (m+1) t):drF t t=none:=by
 unfold drF
 have hl:=z2C (t:=t) rfl h.nz
 rw[if_neg]
 intro z
 obtain⟨j,hj,hn⟩:=(z1K (m:=m) (by have:=h.len;lia)).mp z
 have:=y2i (m:=m+2) (t:=t) (u:=t) rfl h.nz j (by lia)
 have e0:v t (fp t)*v t (skp (fp t) j) - v t (fp t)*v t (skp (fp t) j)=0:=by lia
 rw[e0] at this
 exact hn ((q1b.mp this).resolve_left (gcd0 (z2d h.nz)))
theorem y4y {m:Nat}{t:List Int}{ts:List (List Int)} (ht:WL (m+1) t) (hs:∀u∈ts,u.length=m+2):∀d∈wd (drF t) ts,WL m d:=fun d hd=>by
 unfold wd at hd
 rcases (y2n _ _).mp hd with hd|hd
 ·cases hd
 obtain⟨u,hu,hF⟩:=List.mem_filterMap.mp hd
 unfold drF at hF
 split at hF
 ·rename_i c
  have e:=Option.some.inj hF
  have hl:=z2C (t:=t) (u:=u) (by rw[hs u hu,ht.len]) ht.nz
  have hl':(drR t u).length =m+1:=by have:=ht.len;lia
  obtain⟨j,hj,hn⟩:=(z1K hl').mp c
  have nz:∃n∈drR t u,n≠0:=⟨_,(z6u hn).2,hn⟩
  subst e
  exact⟨by rw[plain_len];exact hl',z2k nz,j,hj,fun z=>hn ((z2b nz j).mp z)⟩
 ·cases hF
theorem z6m:∀(l acc:List (List Int)),acc.Nodup→(dd acc l).Nodup
 |[],acc,h=>h
 |t::l,acc,h=>by
  show (dd (if t∈acc then acc else acc++[t]) l).Nodup
  by_cases ht:t∈acc
  ·rw[if_pos ht];exact z6m l acc h
  ·rw[if_neg ht]
   refine z6m l _ (List.nodup_append.mpr ⟨h,by simp,fun a ha b hb e=>?_⟩)
   rw[q0m.mp hb] at e
   exact ht (e▸ha)
theorem y5j {m:Nat}{t u:List Int} (ht:WL (m+1) t) (hu:WL (m+1) u) (hne:u≠t) (h:∀c,c<m→v (drR t u) c=0):v (drR t u) m≠0:=fun z=>by
 have hc:∀c,c<m+1→v (drR t u) c=0:=fun c hc=>by
  by_cases h':c<m
  ·exact h c h'
  ·rw[show c=m by lia];exact z
 have hd:=y2i (m:=m+1) (t:=t) (u:=u) (by rw[hu.len,ht.len]) ht.nz
 have hfp:fp t<m+1:=ht.fp
 have all:∀j,v t (fp t)*v u j=v u (fp t)*v t j:=fun j=>by
  by_cases hj:j=fp t
  ·rw[hj,q1J]
  by_cases hj2:j<m+2
  ·obtain⟨c,hc1,hc2⟩:∃c,c<m+1∧skp (fp t) c=j:=by
        by_cases h':j<fp t
        ·exact⟨j,by lia,by unfold skp;rw[if_pos h']⟩
        ·exact⟨j - 1,by lia,by unfold skp;rw[if_neg (by lia)];lia⟩
   have:=hd c hc1
   rw[hc c hc1,hc2,q0M] at this
   lia
  ·have e1:v u j=0:=q0l fun z=>by have:=(z6u z).1;rw[hu.len] at this;lia
   have e2:v t j=0:=q0l fun z=>by have:=(z6u z).1;rw[ht.len] at this;lia
   rw[e1,e2];lia
 have tp:=ht.pos
 have un:v u (fp t)≠0:=fun z=>by
  obtain⟨j,_,hj⟩:=hu.way
  have:=all j
  rw[z,Int.zero_mul] at this
  exact hj ((q1b.mp this).resolve_left (by lia))
 have ef:fp u=fp t:=z2B un fun j hj=>by
  have:=all j
  rw[z1g hj,q0M] at this
  exact (q1b.mp this).resolve_left (by lia)
 have up:=hu.pos
 rw[ef] at up
 exact hne (y1g (by rw[hu.len,ht.len]) hu.nz ht.nz hu.pl ht.pl tp up all)
theorem y3J {t u d:List Int} (h:drF t u=some d):(drR t u).dropLast.any (· != 0)=true∧d=z0n (drR t u):=by
 unfold drF at h
 split at h
 ·exact⟨by assumption,(Option.some.inj h).symm⟩
 ·cases h
end Pt
end L2
namespace L2
namespace Pt
open Rk Wl Dm
def bto:Nat→Nat→List (List Int)→List Int
 |0,m,_=>List.replicate m 0++[1]
 |n+1,m,ts=>match ts.getLast? with
  |none=>List.replicate m 0++[1]
  |some t=>List.zipWith (fun a b=>a - b) (bto n m ts.dropLast) (bto n (m - 1) (wd (drF t) ts)++[0])
theorem z8j (n m:Nat):bto n m []=List.replicate m 0++[1]:=by cases n<;>rfl
theorem z6p (n m:Nat) (ts:List (List Int)) (t:List Int):bto (n+1) m (ts++[t])=List.zipWith (fun a b=>a - b) (bto n m ts) (bto n (m - 1) (wd (drF t) (ts++[t]))++[0]):=by
 show (match (ts++[t]).getLast? with|none=>_|some t'=>List.zipWith (fun a b=>a - b) (bto n m (ts++[t]).dropLast) (bto n (m - 1) (wd (drF t') (ts++[t]))++[0]))=_
 rw[List.getLast?_concat,q1F]
theorem z7B {ts:List (List Int)} (h:ts≠[]):∃ts' t,ts=ts'++[t]:=⟨ts.dropLast,ts.getLast h,(q0y h).symm⟩
theorem z5t {m:Nat}{ts:List (List Int)}{t:List Int} (ht:WL (m+1) t):wd (drF t) (ts++[t])=wd (drF t) ts:=by
 unfold wd
 rw[List.filterMap_append,show [t].filterMap (drF t)=[] by simp[y2h ht],List.append_nil]
theorem z8n (F:List Int→Option (List Int)) (ts:List (List Int)):(wd F ts).length ≤ts.length:=by
 unfold wd
 have:=y4s (ts.filterMap F) []
 have:=List.length_filterMap_le F ts
 simp at*
 lia
theorem z2X:∀(n m:Nat) (ts:List (List Int)),(∀t∈ts,WL m t)→(bto n m ts).length =m+1
 |0,m,ts,_=>by simp[bto]
 |n+1,m,ts,h=>by
  by_cases hn:ts=[]
  ·rw[hn,z8j];simp
  obtain⟨ts',t,rfl⟩:=z7B hn
  have ht:=h t (by simp)
  obtain⟨m,rfl⟩:∃k,m=k+1:=⟨m - 1,by have:=ht.fp;lia⟩
  rw[z6p,q1x,z2X n _ ts' fun u hu=>h u (q0B _ hu),q0n]
  rw[Nat.add_sub_cancel,z5t ht,z2X n m _ (y4y ht fun u hu=>(h u (q0B _ hu)).len)]
  simp
end Pt
end L2
set_option maxHeartbeats 1000000
namespace L2
open Fr Wl Pt
namespace Rk
def z8O (m:Nat) (L:List (List Int)):Prop:=∃z,In (L.map v) z∧(∀j,j<m→z j=0)∧z m≠0
open Classical in
noncomputable def gS (m:Nat) (L:List (List Int)) (k:Nat):Int:=if z8O m L then 0 else if dim m (In (L.map v))+k=m then 1 else 0
noncomputable def pS (m:Nat):List (List Int)→List (List Int)→Nat→Int
 |L,[],k=>gS m L k
 |L,w::ws,k=>pS m L ws k - pS m (w::L) ws k
theorem z8f {A B:List (Nat→Int)} (h:In A=In B) (x:Nat→Int):In (x::A)=In (x::B):=by
 have half:∀{A B:List (Nat→Int)},In A=In B→∀r∈x::A,In (x::B) r:=fun h r hr=>by
  rcases q0r.mp hr with rfl|hr
  ·exact In.one q0k
  ·exact In.mono (fun s hs=>q0f _ hs) (h▸In.one hr)
 exact In.same (half h) (half h.symm)
theorem y1U (A:List (Nat→Int)) (x y:Nat→Int):In (x::y::A)=In (y::x::A):=
 by
 have half:∀x y:Nat→Int,∀r∈x::y::A,In (y::x::A) r:=fun x y r hr=>In.one (by
  simp only[q0r] at*
  rcases hr with h|h|h
  ·exact .inr (.inl h)
  ·exact .inl h
  ·exact .inr (.inr h))
 exact In.same (half x y) (half y x)
theorem y5r {A:List (Nat→Int)}{x:Nat→Int} (h:In A x):In (x::A)=In A:=
 In.same (fun r hr=>by
  rcases q0r.mp hr with rfl|hr
  ·exact h
  ·exact In.one hr) (fun r hr=>In.one (q0f _ hr))
theorem z6R {m:Nat}{L L':List (List Int)} (h:In (L.map v)=In (L'.map v)):z8O m L↔z8O m L':=by unfold z8O;rw[h]
theorem y5y {m:Nat}{L L':List (List Int)} (h:In (L.map v)=In (L'.map v)) (k:Nat):gS m L k=gS m L' k:=by
 unfold gS
 rw[h]
 by_cases c:z8O m L
 ·rw[if_pos c,if_pos ((z6R h).mp c)]
 ·rw[if_neg c,if_neg fun z=>c ((z6R h).mpr z)]
theorem z2V {m:Nat}:∀(ws:List (List Int)) {L L':List (List Int)} (h:In (L.map v)=In (L'.map v)) (k:Nat),pS m L ws k=pS m L' ws k
 |[],_,_,h,k=>y5y h k
 |w::ws,L,L',h,k=>by
  rw[pS,pS,z2V ws h,z2V ws (L:=w::L) (L':=w::L') (by rw[q0u,q0u];exact z8f h _)]
theorem z6S {m:Nat}{L:List (List Int)} (h:z8O m L) (w:List Int):z8O m (w::L):=by
 obtain⟨z,h1,h2,h3⟩:=h
 exact⟨z,In.mono (fun s hs=>by rw[q0u];exact q0f _ hs) h1,h2,h3⟩
theorem z8M {m:Nat}:∀(ws:List (List Int)) {L:List (List Int)} (h:z8O m L) (k:Nat),pS m L ws k=0
 |[],_,h,k=>by rw[pS,gS,if_pos h]
 |w::ws,L,h,k=>by rw[pS,z8M ws h,z8M ws (z6S h w)];rfl
theorem y4W {m:Nat}{L:List (List Int)}{w:List Int} (h:z8O m (w::L)) (ws:List (List Int)) (k:Nat):pS m L (w::ws) k=pS m L ws k:=by
 rw[pS,z8M ws h,Int.sub_zero]
theorem y4X {m:Nat}{L:List (List Int)}{w:List Int} (h:In (L.map v) (v w)) (ws:List (List Int)) (k:Nat):pS m L (w::ws) k=0:=by
 rw[pS,z2V ws (L:=w::L) (L':=L) (by rw[q0u];exact y5r h)];lia
theorem z7Q {m:Nat}{ws ws':List (List Int)} (h:ws.Perm ws'):∀(L:List (List Int)) (k:Nat),pS m L ws k=pS m L ws' k:=by
 induction h with
 |nil=>intro L k;rfl
 |cons w _ ih=>intro L k;rw[pS,pS,ih,ih]
 |swap a b ws=>
  intro L k
  rw[pS,pS,pS,pS,pS,pS,z2V ws (L:=a::b::L) (L':=b::a::L) (by rw[q0u,q0u,q0u,q0u];exact y1U _ _ _)]
  lia
 |trans _ _ ih1 ih2=>intro L k;rw[ih1,ih2]
theorem y6t {m:Nat}{L:List (List Int)} (w:List Int) (ws:List (List Int)) (k:Nat):pS m L (w::w::ws) k=pS m L (w::ws) k:=by
 have e:pS m (w::L) (w::ws) k=0:=y4X (In.one (by rw[q0u];exact q0k)) ws k
 rw[pS,e,Int.sub_zero]
theorem y6u {m:Nat}{L:List (List Int)} (k:Nat):∀(l acc:List (List Int)),pS m L (dd acc l) k=pS m L (acc++l) k
 |[],acc=>by rw[List.append_nil];rfl
 |t::l,acc=>by
  show pS m L (dd (if t∈acc then acc else acc++[t]) l) k=_
  rw[y6u k l]
  by_cases h:t∈acc
  ·rw[if_pos h]
   obtain⟨a1,a2,rfl⟩:=List.append_of_mem h
   have p1:((a1++t::a2)++l).Perm (t::(a1++a2++l)):=by
        rw[List.append_assoc,List.cons_append,List.append_assoc];exact List.perm_middle
   have p2:((a1++t::a2)++t::l).Perm (t::t::(a1++a2++l)):=by
        refine List.perm_middle.trans ((List.Perm.cons t p1))
   rw[z7Q p1,z7Q p2,y6t]
  ·rw[if_neg h,List.append_assoc];rfl
def lf (pl:Nat) (y:List Int):List Int:=z2I pl 0 y
theorem z5v {pl:Nat}{y:List Int} (h:pl≤y.length):v (lf pl y) pl=0:=by
 show (z2I pl 0 y).getD pl 0=0
 unfold z2I
 rw[q0b,q0D (by rw[q0o];lia),q0o,Nat.min_eq_left h,q1n];rfl
theorem z7u {pl j:Nat}{y:List Int} (h:pl≤y.length) (hj:j<pl):v (lf pl y) j=v y j:=by
 show (z2I pl 0 y).getD j 0=y.getD j 0
 unfold z2I
 rw[q0b,q0b,q0L (by rw[q0o];lia),List.getElem?_take,if_pos hj]
theorem z7v {pl j:Nat}{y:List Int} (h:pl≤y.length) (hj:pl≤j):v (lf pl y) (j+1)=v y j:=by
 show (z2I pl 0 y).getD (j+1) 0=y.getD j 0
 unfold z2I
 rw[q0b,q0b,q0D (by rw[q0o];lia),q0o,Nat.min_eq_left h,show j+1 - pl=(j - pl)+1 by lia,List.getElem?_cons_succ,List.getElem?_drop,show pl+(j - pl)=j by lia]
theorem z8V {pl:Nat}{y:List Int} (h:pl≤y.length):(lf pl y).length =y.length+1:=by
 show (z2I pl 0 y).length =_
 unfold z2I
 rw[q0n,q0F,q0o,q1K];lia
def lfF (pl:Nat) (x:Nat→Int):Nat→Int:=fun j=>if j<pl then x j else if j=pl then 0 else x (j - 1)
theorem v_lf {pl:Nat}{y:List Int} (h:pl≤y.length):v (lf pl y)=lfF pl (v y):=by
 funext j
 unfold lfF
 by_cases h1:j<pl
 ·rw[if_pos h1,z7u h h1]
 ·rw[if_neg h1]
  by_cases h2:j=pl
  ·rw[if_pos h2,h2,z5v h]
  ·rw[if_neg h2]
   obtain⟨i,rfl⟩:∃i,j=i+1:=⟨j - 1,by lia⟩
   rw[z7v h (by lia)];rfl
theorem y5m (pl:Nat) (c:Int) (x y:Nat→Int):lfF pl (fun j=>c*x j+y j)=fun j=>c*lfF pl x j+lfF pl y j:=by
 funext j
 unfold lfF
 by_cases h1:j<pl
 ·rw[if_pos h1,if_pos h1,if_pos h1]
 ·rw[if_neg h1,if_neg h1,if_neg h1]
  by_cases h2:j=pl
  ·rw[if_pos h2,if_pos h2,if_pos h2];lia
  ·rw[if_neg h2,if_neg h2,if_neg h2]
theorem y5l (pl:Nat) (c:Int) (x:Nat→Int):lfF pl (fun j=>c*x j)=fun j=>c*lfF pl x j:=by
 funext j
 unfold lfF
 by_cases h1:j<pl
 ·rw[if_pos h1,if_pos h1]
 ·rw[if_neg h1,if_neg h1]
  by_cases h2:j=pl
  ·rw[if_pos h2,if_pos h2];lia
  ·rw[if_neg h2,if_neg h2]
theorem y3x (pl j:Nat):lfF pl (fun _=>0) j=0:=by
 unfold lfF
 split
 ·rfl
 ·split<;>rfl
theorem Sm.lf {A:List (Nat→Int)}{x:Nat→Int} (pl:Nat) (h:Sm A x):Sm (A.map (lfF pl)) (lfF pl x):=by
 induction h with
 |zero=>exact Sm.zero.cast fun j=>(y3x pl j).symm
 |more c hr _ ih=>rw[y5m];exact Sm.more c (List.mem_map_of_mem hr) ih
theorem In.lf {A:List (Nat→Int)}{x:Nat→Int} (pl:Nat) (h:In A x):In (A.map (lfF pl)) (lfF pl x):=by
 obtain⟨d,d0,hd⟩:=h
 exact⟨d,d0,by have:=hd.lf pl;rw[y5l] at this;exact this⟩
theorem in_lf {A B:List (Nat→Int)} (pl:Nat) (h:In A=In B):In (A.map (lfF pl))=In (B.map (lfF pl)):=by
 have half:∀{A B:List (Nat→Int)},In A=In B→∀r∈A.map (lfF pl),In (B.map (lfF pl)) r:=fun h r hr=>by
  obtain⟨x,hx,rfl⟩:=q0g.mp hr
  exact (h▸In.one hx:In _ x).lf pl
 exact In.same (half h) (half h.symm)
theorem z5u {pl j:Nat}{y:List Int} (h:pl≤y.length):v (lf pl y) (skp pl j)=v y j:=by
 unfold skp
 by_cases h1:j<pl
 ·rw[if_pos h1,z7u h h1]
 ·rw[if_neg h1,z7v h (by lia)]
theorem fp_lf {pl:Nat}{y:List Int} (h:pl≤y.length) (hn:∃n∈y,n≠0):fp (lf pl y)=skp pl (fp y):=by
 refine z2B (by rw[z5u h];exact z2d hn) fun j hj=>?_
 unfold skp at hj
 by_cases h1:j<pl
 ·rw[z7u h h1]
  refine z1g ?_
  split at hj<;>lia
 ·by_cases h2:j=pl
  ·rw[h2,z5v h]
  ·obtain⟨i,rfl⟩:∃i,j=i+1:=⟨j - 1,by lia⟩
   rw[z7v h (by lia)]
   refine z1g ?_
   split at hj<;>lia
theorem z8X:∀(a b:List Int),z0N (a++0::b)=z0N (a++b)
 |[],b=>if_pos rfl
 |n::a,b=>by
  show (if n=0 then z0N (a++0::b) else n)=if n=0 then z0N (a++b) else n
  rw[z8X a b]
theorem y5w (a b:List Int):z1J (a++0::b)=z1J (a++b):=by
 unfold z1J
 rw[List.foldl_append,List.foldl_append,q1G]
 congr 1
 generalize List.foldl (fun (g:Nat) (n:Int)=>Int.gcd (g:Int) n) 0 a=g
 rw[Int.gcd_zero_right,Int.natAbs_natCast]
theorem by_lf (pl:Nat) (y:List Int):byL (lf pl y)=byL y:=by
 show byL (y.take pl++0::y.drop pl)=byL y
 unfold byL
 rw[z8X,y5w,q1A]
theorem y3b (pl:Nat) (y:List Int):z0n (lf pl y)=lf pl (z0n y):=by
 unfold z0n
 rw[by_lf]
 show (y.take pl++0::y.drop pl).map _=(y.map _).take pl++0::(y.map _).drop pl
 rw[q0x,q0u,List.map_take,List.map_drop,Int.zero_fdiv]
theorem y6d {pl a b:Nat} (h:a<b):skp pl a<skp pl b:=by
 unfold skp
 split<;>split<;>lia
theorem Rws.lf {m pl:Nat}{us:List (List Int)} (h:Rws m us) (hpl:pl≤m):Rws (m+1) (us.map (Rk.lf pl)):=by
 have hlen:∀t∈us,pl≤t.length:=fun t ht=>by have:=(h.row t ht).1;lia
 have hfp:∀t∈us,fp (Rk.lf pl t)=skp pl (fp t):=fun t ht=>fp_lf (hlen t ht) (h.nz ht)
 refine⟨fun u hu=>?_,?_,fun s hs u hu hne=>?_⟩
 ·obtain⟨t,ht,rfl⟩:=q0g.mp hu
  obtain⟨h1,h2,h3⟩:=h.row t ht
  refine⟨by rw[z8V (hlen t ht),h1],?_,by rw[y3b,h3]⟩
  rw[hfp t ht]
  unfold skp
  split<;>lia
 ·rw[q1e]
  exact h.up.imp_of_mem fun {a b} ha hb hab=>by rw[hfp a ha,hfp b hb];exact y6d hab
 ·obtain⟨s,hs',rfl⟩:=q0g.mp hs
  obtain⟨u,hu',rfl⟩:=q0g.mp hu
  clear hs hu
  have hs:=hs'
  have hu:=hu'
  rw[hfp s hs,hfp u hu] at hne
  rw[hfp u hu,z5u (hlen s hs)]
  exact h.off s hs u hu fun e=>hne (by rw[e])
theorem Rws.noff {m:Nat}{us L:List (List Int)} (h:Rws m us) (e:In (us.map v)=In (L.map v)):¬z8O m L:=by
 rintro⟨z,h1,h2,h3⟩
 rw[←e] at h1
 have:=y3M h1 h2 h3
 rw[h.dim (q1v m),h.dim (q0j m)] at this
 lia
theorem Rws.gS {m:Nat}{us:List (List Int)} (h:Rws m us) (k:Nat):gS m us k=if us.length+k=m then 1 else 0:=by
 unfold Rk.gS
 rw[if_neg (h.noff rfl),h.dim (q0j m)]
theorem y0X {m:Nat}:∀(L:List (List Int)),(∀r∈L,r.length=m+1)→¬z8O m L→∃us,Rws m us∧In (us.map v)=In (L.map v)
 |[],_,_=>⟨[],Rws.nil,rfl⟩
 |xs::L,hL,ho=>by
  obtain⟨us,hR,hI⟩:=y0X L (fun r hr=>hL r (q0f _ hr)) fun z=>ho (z6S z xs)
  have xl:=hL xs q0k
  have hIx:In (v xs::us.map v)=In ((xs::L).map v):=by rw[q0u];exact z8f hI _
  by_cases hnz:∃j,j<m∧v (us.foldl z0r xs) j≠0
  ·obtain⟨us',p1,p2⟩:=(⟨(us.map (z1T (z0n (us.foldl z0r xs)))++[z0n (us.foldl z0r xs)]).mergeSort fun a b=>decide (fp a≤fp b),List.mergeSort_perm _ _,by
        have:=List.pairwise_mergeSort (le:=fun a b:List Int=>decide (fp a≤fp b)) (fun a b c h1 h2=>by simp at*;lia) (fun a b=>by simp;lia) (us.map (z1T (z0n (us.foldl z0r xs)))++[z0n (us.foldl z0r xs)])
        exact this.imp fun h=>by simpa using h⟩:∃us':List (List Int),us'.Perm (us.map (z1T (z0n (us.foldl z0r xs)))++[z0n (us.foldl z0r xs)])∧us'.Pairwise (fun a b=>fp a≤fp b))
   obtain⟨q1,q2,_⟩:=hR.more xl hnz p1 p2
   exact⟨us',q1,q2.trans hIx⟩
  ·have z0:∀j,j<m→v (us.foldl z0r xs) j=0:=fun j hj=>q0l fun hc=>hnz ⟨j,hj,hc⟩
   obtain⟨rl,_,_⟩:=hR.rest xl
   have zm:v (us.foldl z0r xs) m=0:=q0l fun hc=>ho ⟨_,hIx▸hR.off_all xl,z0,hc⟩
   refine⟨us,hR,?_⟩
   rw[←hIx]
   refine hR.same xl fun j=>?_
   by_cases hj:j<m
   ·exact z0 j hj
   ·by_cases hj2:j=m
    ·rw[hj2];exact zm
    ·show (us.foldl z0r xs).getD j 0=0
     rw[q0b,q1C (by lia)];rfl
theorem Sm.at0 {A:List (Nat→Int)}{j:Nat} (h:∀r∈A,r j=0) {x:Nat→Int} (hx:Sm A x):x j=0:=by
 induction hx with
 |zero=>rfl
 |more c hr _ ih=>dsimp only;rw[h _ hr,ih];lia
theorem lf_dr {m:Nat}{t u:List Int} (ht:WL (m+1) t) (hu:u.length=m+2):lf (fp t) (drR t u)=z0r u t:=by
 have hl:u.length=t.length:=by rw[hu,ht.len]
 have hc:(z0r u t).length =m+1+1:=by rw[z1q hl,hu]
 have z:v (z0r u t) (fp t)=0:=by rw[z1Q hl,z3d ht.nz];lia
 have:=y6L (m:=m+1) (pl:=fp t) (by have:=ht.fp;lia) hc
 rw[z] at this
 exact this.symm
theorem y5s {m:Nat}{t:List Int} (ht:WL (m+1) t) {S:List (List Int)} (hS:∀u∈S,u.length=m+2):In (v t::((S.map (drR t)).map v).map (lfF (fp t)))=In ((t::S).map v):=by
 have hl:∀u∈S,u.length=t.length:=fun u hu=>by rw[hS u hu,ht.len]
 have e:((S.map (drR t)).map v).map (lfF (fp t))=S.map fun u=>v (z0r u t):=by
  rw[q0C,q0C]
  refine q1w fun u hu=>?_
  show lfF (fp t) (v (drR t u))=_
  rw[←v_lf (by have:=z2C (hl u hu) ht.nz;have:=ht.fp;have:=ht.len;lia),lf_dr ht (hS u hu)]
 rw[e,q0u]
 refine In.same (fun r hr=>?_) (fun r hr=>?_)
 ·rcases q0r.mp hr with rfl|hr
  ·exact In.one q0k
  ·obtain⟨u,hu,rfl⟩:=q0g.mp hr
   refine (((In.one (q0f _ (q0G (f:=v) hu))).mul (z4M u t)).add ((In.one (A:=v t::S.map v) q0k).mul (-z2c u t))).cast fun j=>?_
   rw[z1Q (hl u hu)];grind
 ·rcases q0r.mp hr with rfl|hr
  ·exact In.one q0k
  ·obtain⟨u,hu,rfl⟩:=q0g.mp hr
   refine In.div (z5j (xs:=u) ht.nz) (((In.one (q0f _ (q0G (f:=fun u=>v (z0r u t)) hu))).add ((In.one (A:=v t::S.map fun u=>v (z0r u t)) q0k).mul (z2c u t))).cast fun j=>?_)
   rw[z1Q (hl u hu)];grind
theorem y5z {m:Nat}{t:List Int} (ht:WL (m+1) t) {S:List (List Int)} (hS:∀u∈S,u.length=m+2) (k:Nat):gS (m+1) (t::S) k=gS m (S.map (drR t)) k:=by
 have hl:∀u∈S,u.length=t.length:=fun u hu=>by rw[hS u hu,ht.len]
 have hI:=y5s ht hS
 have hpl:fp t≤m:=by have:=ht.fp;lia
 by_cases ho:z8O m (S.map (drR t))
 ·have h2:z8O (m+1) (t::S):=by
   obtain⟨z,h1,h2,h3⟩:=ho
   refine⟨lfF (fp t) z,?_,fun j hj=>?_,?_⟩
   ·rw[←hI]
    exact In.mono (fun s hs=>q0f _ hs) (h1.lf (fp t))
   ·unfold lfF
    by_cases c1:j<fp t
    ·rw[if_pos c1];exact h2 j (by lia)
    ·rw[if_neg c1]
     by_cases c2:j=fp t
     ·rw[if_pos c2]
     ·rw[if_neg c2];exact h2 (j - 1) (by lia)
   ·unfold lfF
    rw[if_neg (by lia),if_neg (by lia)];exact h3
  unfold gS
  rw[if_pos ho,if_pos h2]
 ·obtain⟨us,hR,hU⟩:=y0X (S.map (drR t)) (fun r hr=>by
   obtain⟨u,hu,rfl⟩:=q0g.mp hr
   have:=z2C (hl u hu) ht.nz;have:=ht.len;lia) ho
  have hRl:=hR.lf hpl
  have hul:∀u∈us,fp t≤u.length:=fun u hu=>by have:=(hR.row u hu).1;lia
  have emap:(us.map (Rk.lf (fp t))).map v=(us.map v).map (lfF (fp t)):=by
   rw[q0C,q0C]
   exact q1w fun u hu=>v_lf (hul u hu)
  have hnz:∃j,j<m+1∧v ((us.map (Rk.lf (fp t))).foldl z0r t) j≠0:=by
   refine⟨fp t,by lia,?_⟩
   obtain⟨_,_,c,c0,hs⟩:=hRl.rest ht.len
   have:=Sm.at0 (j:=fp t) (fun r hr=>by
        obtain⟨x,hx,rfl⟩:=q0g.mp hr
        obtain⟨u,hu,rfl⟩:=q0g.mp hx
        exact z5v (hul u hu)) hs
   have n0:=q0X c0 (z2d ht.nz)
   intro z
   rw[z] at this
   lia
  obtain⟨us',p1,p2⟩:=(⟨((us.map (Rk.lf (fp t))).map (z1T (z0n ((us.map (Rk.lf (fp t))).foldl z0r t)))++[z0n ((us.map (Rk.lf (fp t))).foldl z0r t)]).mergeSort fun a b=>decide (fp a≤fp b),List.mergeSort_perm _ _,by
        have:=List.pairwise_mergeSort (le:=fun a b:List Int=>decide (fp a≤fp b)) (fun a b c h1 h2=>by simp at*;lia) (fun a b=>by simp;lia) ((us.map (Rk.lf (fp t))).map (z1T (z0n ((us.map (Rk.lf (fp t))).foldl z0r t)))++[z0n ((us.map (Rk.lf (fp t))).foldl z0r t)])
        exact this.imp fun h=>by simpa using h⟩:∃us':List (List Int),us'.Perm ((us.map (Rk.lf (fp t))).map (z1T (z0n ((us.map (Rk.lf (fp t))).foldl z0r t)))++[z0n ((us.map (Rk.lf (fp t))).foldl z0r t)])∧us'.Pairwise (fun a b=>fp a≤fp b))
  obtain⟨q1,q2,q3⟩:=hRl.more ht.len hnz p1 p2
  rw[q0a] at q3
  have e1:In (us'.map v)=In ((t::S).map v):=by
   rw[q2,emap,←hI]
   exact z8f (in_lf _ hU) _
  unfold gS
  rw[if_neg ho,if_neg (q1.noff e1),←e1,←hU,q1.dim (q0j _),hR.dim (q0j _),q3]
  by_cases c:us.length+k=m
  ·rw[if_pos c,if_pos (by lia)]
  ·rw[if_neg c,if_neg (by lia)]
theorem z7R {m:Nat}{t:List Int} (ht:WL (m+1) t) (k:Nat):∀(ws S:List (List Int)),(∀u∈ws,u.length=m+2)→(∀u∈S,u.length=m+2)→pS (m+1) (t::S) ws k=pS m (S.map (drR t)) (ws.map (drR t)) k
 |[],S,_,hS=>y5z ht hS k
 |w::ws,S,hw,hS=>by
  have hw':∀u∈ws,u.length=m+2:=fun u hu=>hw u (q0f _ hu)
  have e:=z7R ht k ws (w::S) hw' fun u hu=>by
   rcases q0r.mp hu with rfl|hu
   ·exact hw _ q0k
   ·exact hS u hu
  rw[q0u,pS,pS,z7R ht k ws S hw' hS,z2V ws (L:=w::t::S) (L':=t::w::S) (by rw[q0u,q0u,q0u,q0u];exact y1U _ _ _),e]
  rfl
theorem z5U {m:Nat}{t:List Int} (ht:WL (m+1) t) (k:Nat):∀(ws L:List (List Int)),(∀u∈ws,WL (m+1) u∧u≠t)→pS m L (ws.map (drR t)) k=pS m L (ws.filterMap (drF t)) k
 |[],L,_=>rfl
 |u::ws,L,hw=>by
  obtain⟨hu,hne⟩:=hw u q0k
  have hw':∀u∈ws,WL (m+1) u∧u≠t:=fun u hu=>hw u (q0f _ hu)
  have hul:u.length=t.length:=by rw[hu.len,ht.len]
  have hl:(drR t u).length =m+1:=by have:=z2C hul ht.nz;have:=ht.len;lia
  rw[q0u]
  by_cases hc:(drR t u).dropLast.any (· != 0)=true
  ·have hF:drF t u=some (z0n (drR t u)):=by unfold drF;rw[if_pos hc]
   obtain⟨j,hj,hjn⟩:=(z1K hl).mp hc
   have hnz:∃n∈drR t u,n≠0:=⟨_,(z6u hjn).2,hjn⟩
   rw[List.filterMap_cons_some hF,pS,pS,z5U ht k ws L hw',z5U ht k ws (drR t u::L) hw']
   congr 1
   refine z2V _ ?_ k
   rw[q0u,q0u]
   refine In.same (fun r hr=>?_) (fun r hr=>?_)
   ·rcases q0r.mp hr with rfl|hr
    ·exact ((In.one (A:=v (z0n (drR t u))::L.map v) q0k).mul (byL (drR t u))).cast fun j=>by rw[←z2z (r:=drR t u) j,q1J]
    ·exact In.one (q0f _ hr)
   ·rcases q0r.mp hr with rfl|hr
    ·exact In.div (z2Q hnz) ((In.one (A:=v (drR t u)::L.map v) q0k).cast fun j=>by rw[←z2z (r:=drR t u) j,q1J])
    ·exact In.one (q0f _ hr)
  ·have hF:drF t u=none:=by unfold drF;rw[if_neg hc]
   have z0:∀c,c<m→v (drR t u) c=0:=fun c hcm=>q0l fun z=>hc ((z1K hl).mpr ⟨c,hcm,z⟩)
   rw[List.filterMap_cons_none hF,y4W ⟨v (drR t u),In.one (by rw[q0u];exact q0k),z0,y5j ht hu hne z0⟩,z5U ht k ws L hw']
theorem y6s {m:Nat}{t:List Int}{A B:List (List Int)} (hw:∀u∈A++t::B,WL (m+1) u) (hn:(A++t::B).Nodup) (k:Nat):pS (m+1) [] (A++t::B) k=pS (m+1) [] (A++B) k - pS m [] (wd (drF t) (A++t::B)) k:=by
 have ht:=hw t (by simp)
 have hn':(t::(A++B)).Nodup :=(List.perm_middle.nodup_iff).mp hn
 have hw':∀u∈A++B,WL (m+1) u∧u≠t:=fun u hu=>by
  refine⟨hw u ?_,fun e=>(List.nodup_cons.mp hn').1 (e▸hu)⟩
  rcases q0H.mp hu with h|h
  ·exact q0B _ h
  ·exact q0O _ (q0f _ h)
 have ew:wd (drF t) (A++t::B)=wd (drF t) (A++B):=by
  unfold wd
  rw[List.filterMap_append,List.filterMap_cons_none (y2h ht),←List.filterMap_append]
 rw[z7Q List.perm_middle,pS,ew]
 congr 1
 rw[z7R ht k (A++B) [] (fun u hu=>(hw' u hu).1.len) (by simp),z5U ht k (A++B) _ hw']
 unfold wd
 rw[y6u]
 rfl
end Rk
end L2
namespace L2
open Fr Wl Pt Rk
namespace Ld
def sumTo:Nat→(Nat→Int)→Int
 |0,_=>0
 |n+1,f=>sumTo n f+f n
def hg (w:Nat) (a s:Nat→Int):Int:=sumTo w (fun j=>a j*s j) - a w*s w
theorem z3T (c d:Int) (f g:Nat→Int):∀n,sumTo n (fun j=>c*f j+d*g j)=c*sumTo n f+d*sumTo n g
 |0=>by simp[sumTo]
 |n+1=>by rw[sumTo,sumTo,sumTo,z3T c d f g n];grind
theorem sumTo_congr {f g:Nat→Int}:∀n,(∀j,j<n→f j=g j)→sumTo n f=sumTo n g
 |0,_=>rfl
 |n+1,h=>by rw[sumTo,sumTo,sumTo_congr n fun j hj=>h j (by lia),h n (by lia)]
theorem z0V {w:Nat}{a b s t:Nat→Int} (h1:∀j,j≤w→a j=b j) (h2:∀j,j≤w→s j=t j):hg w a s=hg w b t:=by
 unfold hg
 rw[sumTo_congr w (g:=fun j=>b j*t j) fun j hj=>by rw[h1 j (by lia),h2 j (by lia)],h1 w (q0j _),h2 w (q0j _)]
theorem z7a (w:Nat) (a:Nat→Int) (c d:Int) (x y:Nat→Int):hg w a (fun j=>c*x j+d*y j)=c*hg w a x+d*hg w a y:=by
 unfold hg
 have:(fun j=>a j*(c*x j+d*y j))=fun j=>c*(a j*x j)+d*(a j*y j):=by funext j;grind
 rw[this,z3T]
 grind
theorem y1Z (w:Nat) (s:Nat→Int) (c d:Int) (a b:Nat→Int):hg w (fun j=>c*a j+d*b j) s=c*hg w a s+d*hg w b s:=by
 unfold hg
 have:(fun j=>(c*a j+d*b j)*s j)=fun j=>c*(a j*s j)+d*(b j*s j):=by funext j;grind
 rw[this,z3T]
 grind
theorem z5n (w:Nat) (a:Nat→Int) (c:Int) (x:Nat→Int):hg w a (fun j=>c*x j)=c*hg w a x:=by
 have:=z7a w a c 0 x x
 rw[z0V (b:=a) (t:=fun j=>c*x j+0*x j) (fun _ _=>rfl) fun j _=>by lia,this]
 lia
theorem y5t (w:Nat) (s:Nat→Int) (c:Int) (a:Nat→Int):hg w (fun j=>c*a j) s=c*hg w a s:=by
 have:=y1Z w s c 0 a a
 rw[z0V (b:=fun j=>c*a j+0*a j) (t:=s) (fun j _=>by lia) fun _ _=>rfl,this]
 lia
theorem z4Y {p:Nat}{f:Nat→Int}:∀{w:Nat},p≤w→sumTo (w+1) f=sumTo w (fun j=>f (skp p j))+f p
 |0,h=>by
  have:p=0:=by lia
  subst this
  rfl
 |w+1,h=>by
  by_cases c:p≤w
  ·rw[sumTo,z4Y c,sumTo]
   have:skp p w=w+1:=by unfold skp;rw[if_neg (by lia)]
   rw[this];lia
  ·have:p=w+1:=by lia
   subst this
   rw[sumTo]
   congr 1
   exact sumTo_congr _ fun j hj=>by unfold skp;rw[if_pos hj]
theorem z6h {p w:Nat}{a s:Nat→Int} (h:p≤w):hg (w+1) a s=hg w (fun j=>a (skp p j)) (fun j=>s (skp p j))+a p*s p:=by
 unfold hg
 rw[z4Y h]
 have:skp p w=w+1:=by unfold skp;rw[if_neg (by lia)]
 dsimp only
 rw[this]
 lia
def Spt (w:Nat) (s:List Int):Prop:=s.length=w+1∧0<v s w
def Win (w:Nat) (bs:List (List Int)) (s:List Int):Prop:=Spt w s∧∀b∈bs,0<hg w (v b) (v s)
def Pw (w:Nat) (bs:List (List Int)):Prop:=∃s,Win w bs s
def mkL (w:Nat) (f:Nat→Int):List Int:=(List.range (w+1)).map f
theorem z7X (w:Nat) (f:Nat→Int):(mkL w f).length =w+1:=by unfold mkL;rw[List.length_map,List.length_range]
theorem y3u {w j:Nat}{f:Nat→Int} (h:j≤w):v (mkL w f) j=f j:=by
 show (mkL w f).getD j 0=f j
 unfold mkL
 rw[q0b,q0h,List.getElem?_range (by lia)];rfl
theorem y1Y {w:Nat}{a f:Nat→Int}:hg w a (v (mkL w f))=hg w a f:=z0V (fun _ _=>rfl) fun j hj=>y3u hj
theorem z6i {w:Nat}{t u:List Int}{s:Nat→Int} (hp:fp t≤w) (ht:t.length=w+2) (hu:u.length=w+2) (hn:∃n∈t,n≠0):
 hg w (v (drR t u)) (fun j=>s (skp (fp t) j))=z4M u t*hg (w+1) (v u) s+(-z2c u t)*hg (w+1) (v t) s:=by
 have hl:u.length=t.length:=by lia
 rw[←y1Z]
 have e:∀j,v (z0r u t) j=z4M u t*v u j+ -z2c u t*v t j:=fun j=>by rw[z1Q hl];grind
 rw[z0V (w:=w+1) (b:=v (z0r u t)) (t:=s) (fun j _=>(e j).symm) (fun _ _=>rfl),z6h hp]
 have z:v (z0r u t) (fp t)=0:=by rw[z1Q hl,z3d hn];lia
 rw[z,Int.zero_mul,q1k]
 exact z0V (fun j _=>by unfold drR;rw[z2u]) fun _ _=>rfl
theorem z5V {u t:List Int} (h:0<v t (fp t)):0<z4M u t:=by
 unfold z4M
 have g0:0<Int.gcd (v t (fp t)) (v u (fp t)):=Nat.pos_of_ne_zero fun z=>by
  have:=(Int.gcd_eq_zero_iff.mp z).1;lia
 have:=fdiv_mul (q1j (a:=v t (fp t)) (b:=v u (fp t)))
 refine q0l fun c=>?_
 have h2:(v t (fp t)).fdiv (Int.gcd (v t (fp t)) (v u (fp t)))*((Int.gcd (v t (fp t)) (v u (fp t)):Nat):Int)≤0:=Int.mul_nonpos_of_nonpos_of_nonneg (by lia) (by lia)
 lia
theorem cross {w:Nat}{bs:List (List Int)}{b s0 s1:List Int} (h0:Win w bs s0) (h0b:hg w (v b) (v s0)≤0) (h1:Win w bs s1) (h1b:0<hg w (v b) (v s1)):
 ∃s,Win w bs s∧hg w (v b) (v s)=0:=by
 generalize e0:hg w (v b) (v s0)=x0 at*
 generalize e1:hg w (v b) (v s1)=x1 at*
 refine⟨mkL w fun j=>(-x0)*v s1 j+x1*v s0 j,⟨⟨z7X _ _,?_⟩,fun c hc=>?_⟩,?_⟩
 ·rw[y3u (q0j _)]
  have a:=h0.1.2;have b:=h1.1.2
  have:=q1y h1b a
  have:=q0U (show 0≤ -x0 by lia) (q1h b)
  lia
 ·rw[y1Y,z7a]
  have:=q1y h1b (h0.2 c hc)
  have:=q0U (show 0≤ -x0 by lia) (q1h (h1.2 c hc))
  lia
 ·rw[y1Y,z7a,e0,e1]
  grind
def z4x (s:List Int):List Int:=s.map fun n=>n.fdiv (z1J s:Int)
theorem y1I {s:List Int} (j:Nat):(z1J s:Int)*v (z4x s) j=v s j:=by
 show (z1J s:Int)*(z4x s).getD j 0=s.getD j 0
 unfold z4x
 rw[q0b,q0b,q0h]
 cases e:s[j]? with
 |none=>simp
 |some n=>
  show (z1J s:Int)*n.fdiv (z1J s:Int)=n
  rw[q1J]
  exact fdiv_mul ((z3Q s 0).2 n (q0E e))
theorem z8U (s:List Int):(z4x s).length =s.length:=by unfold z4x;rw[List.length_map]
theorem z8b {w:Nat}{s:List Int}{a:Nat→Int}:(z1J s:Int)*hg w a (v (z4x s))=hg w a (v s):=by
 rw[←z5n]
 exact z0V (fun _ _=>rfl) fun j _=>y1I j
theorem z3v {a b c:Int} (ha:0<a) (h:a*b=c) (hc:0<c):0<b:=by
 refine q0l fun z=>?_
 have:=Int.mul_nonpos_of_nonneg_of_nonpos (q1h ha) (show b≤0 by lia)
 lia
theorem z5p {s:List Int}{w:Nat} (h:0<v s w):0<(z1J s:Int):=by
 have:=z1W (rs:=s) (z1Y (j:=w) (by lia))
 lia
theorem Win.low {w:Nat}{bs:List (List Int)}{s:List Int} (h:Win w bs s):Win w bs (z4x s):=by
 have g:=z5p h.1.2
 exact⟨⟨by rw[z8U,h.1.1],z3v g (y1I w) h.1.2⟩,fun b hb=>z3v g z8b (h.2 b hb)⟩
theorem y3w {w:Nat}{s:List Int}{a:Nat→Int} (hs:0<v s w) (h:hg w a (v s)=0):hg w a (v (z4x s))=0:=by
 have g:=z5p hs
 have:=z8b (w:=w) (s:=s) (a:=a)
 rw[h] at this
 exact (q1b.mp this).resolve_left (by lia)
def upL (w:Nat) (t f:List Int):List Int:=(((z2I (fp t) 0 f).map fun n=>v t (fp t)*n).set (fp t) (0 - hg w (v t) (v (z2I (fp t) 0 f))))
theorem y1S {pl j:Nat}{f:List Int} (h:pl≤f.length):v (z2I pl 0 f) (skp pl j)=v f j:=z5u h
theorem y6M {pl:Nat}{f:List Int} (h:pl≤f.length):v (z2I pl 0 f) pl=0:=z5v h
theorem y0p {w:Nat}{t f:List Int} (hf:f.length=w+1) (hp:fp t≤w):(upL (w+1) t f).length =w+2:=by
 unfold upL
 rw[List.length_set,q0a]
 have:=z8V (pl:=fp t) (y:=f) (by lia)
 show (lf (fp t) f).length =_
 lia
theorem z8r {c:Int}{l:List Int}{j:Nat}:v (l.map fun n=>c*n) j=c*v l j:=v_map l j
theorem z3A {w j:Nat}{t f:List Int} (hf:f.length=w+1) (hp:fp t≤w):v (upL (w+1) t f) (skp (fp t) j)=v t (fp t)*v f j:=by
 have ne:fp t≠skp (fp t) j:=by unfold skp;split<;>lia
 have:v (upL (w+1) t f) (skp (fp t) j)=v ((z2I (fp t) 0 f).map fun n=>v t (fp t)*n) (skp (fp t) j):=by
  show (upL (w+1) t f).getD _ 0=List.getD _ _ 0
  unfold upL
  rw[q0b,q0b,List.getElem?_set_ne ne]
 rw[this,z8r,y1S (by lia)]
theorem up_at {w:Nat}{t f:List Int} (hf:f.length=w+1) (hp:fp t≤w):v (upL (w+1) t f) (fp t)=0 - hg (w+1) (v t) (v (z2I (fp t) 0 f)):=by
 show (upL (w+1) t f).getD _ 0=_
 unfold upL
 rw[q0b,List.getElem?_set_self]
 ·rfl
 ·rw[q0a]
  have:=z8V (pl:=fp t) (y:=f) (by lia)
  show fp t<(lf (fp t) f).length
  lia
theorem y4B {w:Nat}{t f:List Int} (hf:f.length=w+1) (hp:fp t≤w):hg (w+1) (v t) (v (upL (w+1) t f))=0:=by
 rw[z6h hp,up_at hf hp]
 have e1:hg w (fun j=>v t (skp (fp t) j)) (fun j=>v (upL (w+1) t f) (skp (fp t) j))=v t (fp t)*hg w (fun j=>v t (skp (fp t) j)) (v f):=by
  rw[←z5n]
  exact z0V (fun _ _=>rfl) fun j _=>z3A hf hp
 have e2:hg (w+1) (v t) (v (z2I (fp t) 0 f))=hg w (fun j=>v t (skp (fp t) j)) (v f):=by
  rw[z6h hp,y6M (by lia),q0M,q1k]
  exact z0V (fun _ _=>rfl) fun j _=>y1S (by lia)
 rw[e1,e2]
 grind
theorem y3U {w:Nat}{t f:List Int}{bs:List (List Int)} (hp:fp t≤w) (ht:t.length=w+2) (hpos:0<v t (fp t)) (hb:∀u∈bs,u.length=w+2) (hf:Win w (bs.map (drR t)) f):
 Win (w+1) bs (upL (w+1) t f):=by
 have hn:∃n∈t,n≠0:=z1Y (j:=fp t) (by lia)
 have hfl:=hf.1.1
 refine⟨⟨y0p hfl hp,?_⟩,fun u hu=>?_⟩
 ·have e:skp (fp t) w=w+1:=by unfold skp;rw[if_neg (by lia)]
  have e2:=z3A (j:=w) hfl hp
  rw[e] at e2
  rw[e2]
  exact q1y hpos hf.1.2
 ·have h1:=z6i (s:=v (upL (w+1) t f)) hp ht (hb u hu) hn
  rw[y4B hfl hp,q0M,q1k] at h1
  have h2:hg w (v (drR t u)) (fun j=>v (upL (w+1) t f) (skp (fp t) j))=v t (fp t)*hg w (v (drR t u)) (v f):=by
   rw[←z5n]
   exact z0V (fun _ _=>rfl) fun j _=>z3A hfl hp
  have h3:=q1y hpos (hf.2 _ (q0G hu))
  exact z3v (z5V hpos) h1.symm (by rw[h2];exact h3)
theorem y3K {w:Nat}{t s:List Int}{bs:List (List Int)} (hp:fp t≤w) (ht:t.length=w+2) (hpos:0<v t (fp t)) (hb:∀u∈bs,u.length=w+2) (hs:Win (w+1) bs s) (ho:hg (w+1) (v t) (v s)=0):
 Win w (bs.map (drR t)) (s.eraseIdx (fp t)):=by
 have hn:∃n∈t,n≠0:=z1Y (j:=fp t) (by lia)
 have hsl:=hs.1.1
 refine⟨⟨by rw[List.length_eraseIdx,if_pos (by lia)];lia,?_⟩,fun d hd=>?_⟩
 ·rw[z2u]
  have e:skp (fp t) w=w+1:=by unfold skp;rw[if_neg (by lia)]
  rw[e];exact hs.1.2
 ·obtain⟨u,hu,rfl⟩:=q0g.mp hd
  have h1:=z6i (s:=v s) hp ht (hb u hu) hn
  rw[ho,q0M,q1k] at h1
  rw[z0V (w:=w) (a:=v (drR t u)) (b:=v (drR t u)) (s:=v (s.eraseIdx (fp t))) (t:=fun j=>v s (skp (fp t) j)) (fun _ _=>rfl) (fun j _=>z2u _ _ _),h1]
  exact q1y (z5V hpos) (hs.2 u hu)
def z3S (w p:Nat) (s:List Int) (bs:List (List Int)):Int:=bs.foldl (fun z b=>max z (((v b p).natAbs :Int)*v s w/hg w (v b) (v s)+1)) 1
theorem z7m {w p:Nat}{s:List Int}:∀(bs:List (List Int)) (z:Int),z≤bs.foldl (fun z b=>max z (((v b p).natAbs :Int)*v s w/hg w (v b) (v s)+1)) z∧∀b∈bs,((v b p).natAbs :Int)*v s w/hg w (v b) (v s)+1≤bs.foldl (fun z b=>max z (((v b p).natAbs :Int)*v s w/hg w (v b) (v s)+1)) z
 |[],z=>⟨Int.le_refl _,fun b h=>by cases h⟩
 |c::bs,z=>by
  obtain⟨h1,h2⟩:=z7m (w:=w) (p:=p) (s:=s) bs (max z (((v c p).natAbs :Int)*v s w/hg w (v c) (v s)+1))
  rw[q1G]
  refine⟨by lia,fun b hb=>?_⟩
  rcases q0r.mp hb with rfl|hb
  ·lia
  ·exact h2 b hb
def z7r (w p:Nat) (sg:Int) (s:List Int) (bs:List (List Int)):List Int:=(s.map fun n=>z3S w p s bs*n).set p (z3S w p s bs*v s p+sg*v s w)
theorem y0t {w p:Nat}{sg:Int}{s:List Int}{bs:List (List Int)}:(z7r w p sg s bs).length =s.length:=by unfold z7r;rw[List.length_set,List.length_map]
theorem y0s {w p j:Nat}{sg:Int}{s:List Int}{bs:List (List Int)} (hp:p<s.length):v (z7r w p sg s bs) j=z3S w p s bs*v s j+if j=p then sg*v s w else 0:=by
 show (z7r w p sg s bs).getD j 0=_
 unfold z7r
 rw[q0b]
 by_cases h:j=p
 ·subst h
  rw[List.getElem?_set_self (by rw[q0a];exact hp),if_pos rfl];rfl
 ·rw[List.getElem?_set_ne (fun z=>h z.symm),if_neg h,←q0b]
  show v (s.map fun n=>z3S w p s bs*n) j=_
  rw[z8r,q1k]
theorem z6w {p:Nat}{f:Nat→Int} (hf:∀j,j≠p→f j=0):∀n,sumTo n f=if p<n then f p else 0
 |0=>rfl
 |n+1=>by
  rw[sumTo,z6w hf n]
  by_cases h:p<n
  ·rw[if_pos h,if_pos (by lia),hf n (by lia),q1k]
  ·rw[if_neg h]
   by_cases h2:p=n
   ·subst h2;rw[if_pos (by lia)];lia
   ·rw[if_neg (by lia),hf n (fun z=>h2 z.symm)];rfl
theorem y6Q {w p:Nat}{sg:Int}{s:List Int}{bs:List (List Int)}{a:Nat→Int} (hs:s.length=w+1) (hp:p<w):hg w a (v (z7r w p sg s bs))=z3S w p s bs*hg w a (v s)+a p*(sg*v s w):=by
 have e:hg w a (v (z7r w p sg s bs))=hg w a (fun j=>z3S w p s bs*v s j+1*(if j=p then sg*v s w else 0)):=z0V (fun _ _=>rfl) fun j _=>by rw[y0s (by lia),Int.one_mul]
 rw[e,z7a,Int.one_mul]
 congr 1
 unfold hg
 dsimp only
 rw[z6w (p:=p) (fun j hj=>by rw[if_neg hj,q0M]),if_pos hp,if_pos rfl,if_neg (by lia),q0M,Int.sub_zero]
theorem y3L {a h:Int} (ha:0≤a) (hh:0<h) {z:Int} (hz:a/h+1≤z):a<z*h:=by
 have h1:=Int.lt_ediv_add_one_mul_self a hh
 have h2:=Int.mul_le_mul_of_nonneg_right hz (q1h hh)
 lia
theorem y0r {w p:Nat}{sg:Int}{s b:List Int}{bs:List (List Int)} (hs:Win w bs s) (hp:p<w) (hsg:sg=1∨sg= -1) (hb0:hg w (v b) (v s)=0) (hb:0<v b p*sg):Win w (bs++[b]) (z7r w p sg s bs):=by
 have hl:=hs.1.1
 have hw:=hs.1.2
 have bt1:1≤z3S w p s bs:=(z7m bs 1).1
 refine⟨⟨by rw[y0t,hl],?_⟩,fun c hc=>?_⟩
 ·rw[y0s (by lia),if_neg (by lia),q1k]
  exact q1y (by lia) hw
 ·rw[y6Q hl hp]
  rcases q0H.mp hc with hc|hc
  ·have h1:=hs.2 c hc
   have h2:=(z7m (w:=w) (p:=p) (s:=s) bs 1).2 c hc
   have h3:=y3L (q0U (Int.natCast_nonneg (v c p).natAbs) (q1h hw)) h1 h2
   have h4: -(((v c p).natAbs :Int)*v s w)≤v c p*(sg*v s w):=by
     rcases Int.natAbs_eq (v c p) with e|e
     ·generalize (v c p).natAbs =n at*
      rw[e]
      rcases hsg with rfl|rfl
      ·have:=q0U (Int.natCast_nonneg n) (q1h hw);grind
      ·grind
     ·generalize (v c p).natAbs =n at*
      rw[e]
      rcases hsg with rfl|rfl
      ·grind
      ·have:=q0U (Int.natCast_nonneg n) (q1h hw);grind
   have h5:z3S w p s bs*hg w (v c) (v s)=bs.foldl (fun z b=>max z (((v b p).natAbs :Int)*v s w/hg w (v b) (v s)+1)) 1*hg w (v c) (v s):=rfl
   lia
  ·rw[q0m.mp hc,hb0,q0M,Int.zero_add]
   have:=q1y hb hw
   rw[←Int.mul_assoc];exact this
end Ld
end L2
namespace L2
open Fr Wl Pt Rk
namespace Ld
def z0s (sg:Int) (r:List Int):List Int:=r.map fun n=>sg*n
theorem z1A {sg:Int}{r:List Int} (j:Nat):v (z0s sg r) j=sg*v r j:=z8r
theorem z2F {sg:Int}{r:List Int}:(z0s sg r).length =r.length:=by unfold z0s;rw[List.length_map]
theorem z2o {w:Nat}{sg:Int}{r:List Int}{s:Nat→Int}:hg w (v (z0s sg r)) s=sg*hg w (v r) s:=by
 rw[←y5t]
 exact z0V (fun j _=>z1A j) fun _ _=>rfl
def ldL (b:List Int):Int:=if 0<v b (fp b) then 1 else -1
theorem z0U (b:List Int):ldL b=1∨ldL b= -1:=by unfold ldL;split<;>simp
theorem z2O {b:List Int} (h:∃n∈b,n≠0):0<ldL b*v b (fp b):=by
 have:=z2d h
 unfold ldL
 split<;>lia
theorem z3y {b:List Int} (h:∃n∈b,n≠0) {sg:Int} (hs:sg=1∨sg= -1):fp (z0s sg b)=fp b:=by
 refine z2B ?_ fun j hj=>?_
 ·rw[z1A]
  exact q0X (by rcases hs with h|h<;>rw[h]<;>decide) (z2d h)
 ·rw[z1A,z1g hj,q0M]
theorem y2c {w:Nat}{bs:List (List Int)}{b s0:List Int} (hz:∀j,j<w→v b j=0) (h0:Spt w s0) (hb:hg w (v b) (v s0)≤0):¬Pw w (bs++[b]):=by
 rintro⟨s,hs,hw⟩
 have e:∀s:Nat→Int,hg w (v b) s= -(v b w*s w):=fun s=>by
  unfold hg
  rw[sumTo_congr w (g:=fun _=>0) fun j hj=>by rw[hz j hj,Int.zero_mul]]
  have:∀n,sumTo n (fun _=>0)=0:=fun n=>by
   induction n with
   |zero=>rfl
   |succ n ih=>rw[sumTo,ih];rfl
  rw[this];lia
 have h1:=hw b (by simp)
 rw[e] at h1 hb
 have c0:0≤v b w:=by
  refine q0l fun z=>?_
  have:=Int.mul_neg_of_neg_of_pos (show v b w<0 by lia) h0.2
  lia
 have:=q0U c0 (q1h hs.2)
 lia
theorem z8l {w:Nat}{bs:List (List Int)}{b s0:List Int} (hbl:b.length=w+2) (hl:∀u∈bs,u.length=w+2) (hfp:fp b≤w) (h0:Win (w+1) bs s0) (hb:hg (w+1) (v b) (v s0)≤0)
 (hn:¬Pw w (bs.map (drR (z0s (ldL b) b)))):¬Pw (w+1) (bs++[b]):=by
 rintro⟨s1,h1,h2⟩
 have nz:∃n∈b,n≠0:=z6T (by lia)
 obtain⟨s,hs,ho⟩:=cross h0 hb ⟨h1,fun c hc=>h2 c (q0B _ hc)⟩ (h2 b (by simp))
 have ft:=z3y nz (z0U b)
 refine hn ⟨_,y3K (t:=z0s (ldL b) b) (by lia) (by rw[z2F,hbl]) (by rw[z1A,ft];exact z2O nz) hl hs (by rw[z2o,ho,q0M])⟩
theorem z8k {w:Nat}{bs:List (List Int)}{b f:List Int} (hbl:b.length=w+2) (hl:∀u∈bs,u.length=w+2) (hfp:fp b≤w) (hf:Win w (bs.map (drR (z0s (ldL b) b))) f):
 Win (w+1) bs (z4x (upL (w+1) (z0s (ldL b) b) f))∧hg (w+1) (v b) (v (z4x (upL (w+1) (z0s (ldL b) b) f)))=0∧
 Win (w+1) (bs++[b]) (z4x (z7r (w+1) (fp b) (ldL b) (z4x (upL (w+1) (z0s (ldL b) b) f)) bs)):=by
 have nz:∃n∈b,n≠0:=z6T (by lia)
 have ft:=z3y nz (z0U b)
 have hpos:0<v (z0s (ldL b) b) (fp (z0s (ldL b) b)):=by rw[z1A,ft];exact z2O nz
 have hw:=y3U (t:=z0s (ldL b) b) (by lia) (by rw[z2F,hbl]) hpos hl hf
 have ho:=y4B (w:=w) (t:=z0s (ldL b) b) hf.1.1 (by lia)
 have hob:hg (w+1) (v b) (v (upL (w+1) (z0s (ldL b) b) f))=0:=by
  rw[z2o] at ho
  exact (q1b.mp ho).resolve_left (by rcases z0U b with h|h<;>rw[h]<;>decide)
 have hlow:=hw.low
 have holow:=y3w hw.1.2 hob
 refine⟨hlow,holow,(y0r hlow (by lia) (z0U b) holow ?_).low⟩
 rw[q1J];exact z2O nz
def bdL (ts:List (List Int)) (sg:List Int):List (List Int):=List.zipWith (fun t s=>z0s s t) ts sg
def y2F (w:Nat) (ts:List (List Int)) (sg:List Int):Prop:=Pw w (bdL ts sg)
theorem z4J {ts:List (List Int)}{sg:List Int} (h:ts.length=sg.length) (t:List Int) (s:Int):bdL (ts++[t]) (sg++[s])=bdL ts sg++[z0s s t]:=by
 unfold bdL
 rw[List.zipWith_append h];rfl
theorem Pw.less {w:Nat}{bs cs:List (List Int)} (h:Pw w (bs++cs)):Pw w bs:=let ⟨s,a,b⟩:=h;⟨s,a,fun c hc=>b c (q0B _ hc)⟩
open Classical in
noncomputable def z2a (w:Nat) (ts:List (List Int)) (t s:List Int):List (List Int):=[s++[-1],s++[1]].filter fun s'=>decide (y2F w (ts++[t]) s')
noncomputable def sgN (w:Nat) (ts:List (List Int)):Nat→List (List Int)
 |0=>[[]]
 |i+1=>(sgN w ts i).flatMap (z2a w (ts.take i) (ts.getD i []))
def Sgn (s:List Int):Prop:=∀x∈s,x=1∨x= -1
open Classical in
theorem z8a {w:Nat}{ts:List (List Int)}:∀{i:Nat},i≤ts.length→∀{s:List Int},s∈sgN w ts i↔s.length=i∧Sgn s∧y2F w (ts.take i) s
 |0,_,s=>by
  show s∈[[]]↔_
  rw[q0m,List.take_zero]
  constructor
  ·rintro rfl
   refine⟨rfl,(fun x h=>by cases h),mkL w (fun _=>1),⟨z7X _ _,by rw[y3u (q0j _)];decide⟩,fun b hb=>?_⟩
   exact absurd hb (by unfold bdL;simp)
  ·exact fun h=>q0V.mp h.1
 |i+1,hi,s=>by
  have ih:=fun {s}=>z8a (w:=w) (ts:=ts) (i:=i) (by lia) (s:=s)
  have et:ts[i]? =some (ts.getD i []):=by rw[q0b,q0c (by lia)];rfl
  have tk:ts.take (i+1)=ts.take i++[ts.getD i []]:=by rw[q0R,et];rfl
  have tl:(ts.take i).length =i:=by rw[q0o];lia
  rw[sgN,List.mem_flatMap,tk]
  constructor
  ·rintro⟨u,hu,hs⟩
   obtain⟨h1,h2,h3⟩:=ih.mp hu
   unfold z2a at hs
   obtain⟨h4,h5⟩:=List.mem_filter.mp hs
   have h6:=of_decide_eq_true h5
   simp only[q0r,List.not_mem_nil,or_false] at h4
   rcases h4 with rfl|rfl
   ·exact⟨by simp[h1],fun x hx=>by rcases q0H.mp hx with h|h;exact h2 x h;exact .inr (q0m.mp h),h6⟩
   ·exact⟨by simp[h1],fun x hx=>by rcases q0H.mp hx with h|h;exact h2 x h;exact .inl (q0m.mp h),h6⟩
  ·rintro⟨h1,h2,h3⟩
   obtain⟨u,x,rfl⟩:∃u x,s=u++[x]:=⟨s.dropLast,s.getLast (fun z=>by rw[z] at h1;simp at h1),(q0y _).symm⟩
   have ul:u.length=i:=by simpa using h1
   refine⟨u,ih.mpr ⟨ul,fun y hy=>h2 y (q0B _ hy),?_⟩,?_⟩
   ·unfold y2F at h3 ⊢
    rw[z4J (by lia)] at h3
    exact h3.less
   ·unfold z2a
    refine List.mem_filter.mpr ⟨?_,decide_eq_true h3⟩
    rcases h2 x (by simp) with rfl|rfl<;>simp
theorem y4E (w:Nat) (ts:List (List Int)) (t s:List Int):(z2a w ts t s).length ≤2:=by
 unfold z2a
 exact q1q _ _
theorem z5F (w:Nat) (ts:List (List Int)):∀i,(sgN w ts i).length ≤2^i
 |0=>Nat.le_refl _
 |i+1=>by
  have ih:=z5F w ts i
  rw[sgN]
  generalize sgN w ts i=L at*
  have:∀L:List (List Int),(L.flatMap (z2a w (ts.take i) (ts.getD i []))).length ≤2*L.length:=fun L=>by
   induction L with
   |nil=>simp
   |cons a L ih2=>
    rw[List.flatMap_cons,q0n,q0F]
    have:=y4E w (ts.take i) (ts.getD i []) a
    lia
  have:=this L
  rw[Nat.pow_succ];lia
theorem y1c {w:Nat}{ts:List (List Int)}{t s:List Int} (hl:ts.length=s.length) (htl:t.length=w+1) (ht:fp t<w) (hr:y2F w ts s):∃x,(x=1∨x= -1)∧y2F w (ts++[t]) (s++[x]):=by
 obtain⟨p,hp⟩:=hr
 unfold y2F
 have app:∀x:Int,0<hg w (v (z0s x t)) (v p)→Pw w (bdL (ts++[t]) (s++[x])):=fun x h=>by
  rw[z4J hl]
  refine⟨p,hp.1,fun b hb=>?_⟩
  rcases q0H.mp hb with hb|hb
  ·exact hp.2 b hb
  ·rw[q0m.mp hb];exact h
 rcases (by lia:0<hg w (v t) (v p)∨hg w (v t) (v p)<0∨hg w (v t) (v p)=0) with h|h|h
 ·exact⟨1,.inl rfl,app 1 (by rw[z2o];lia)⟩
 ·exact⟨-1,.inr rfl,app (-1) (by rw[z2o];lia)⟩
 ·refine⟨1,.inl rfl,?_⟩
  rw[z4J hl]
  have nz:∃n∈t,n≠0:=z6T (by lia)
  obtain⟨h1,h2⟩:=y0r (b:=t) (sg:=ldL t) (p:=fp t) hp ht (z0U t) h (by rw[q1J];exact z2O nz)
  refine⟨_,h1,fun b hb=>?_⟩
  rcases q0H.mp hb with hb|hb
  ·exact h2 b (q0B _ hb)
  ·rw[q0m.mp hb,z2o,Int.one_mul]
   exact h2 t (by simp)
open Classical in
theorem y4a {w:Nat}{ts:List (List Int)} (ht:∀t∈ts,t.length=w+1∧fp t<w):∀i,i≤ts.length→∃s,s∈sgN w ts i
 |0,_=>⟨[],by show []∈[[]];simp⟩
 |i+1,hi=>by
  obtain⟨s,hs⟩:=y4a ht i (by lia)
  obtain⟨h1,h2,h3⟩:=(z8a (by lia)).mp hs
  have hm:ts.getD i []∈ts:=by rw[q0b,q0c (by lia)];exact q0A _
  obtain⟨x,hx,hr⟩:=y1c (t:=ts.getD i []) (by rw[q0o];lia) (ht _ hm).1 (ht _ hm).2 h3
  refine⟨s++[x],?_⟩
  rw[sgN,List.mem_flatMap]
  refine⟨s,hs,?_⟩
  unfold z2a
  refine List.mem_filter.mpr ⟨?_,decide_eq_true hr⟩
  rcases hx with rfl|rfl<;>simp
end Ld
end L2
namespace L2
open Fr Wl Pt Rk
namespace Ld
theorem y6W {ts:List (List Int)}{s:List Int}{i:Nat} (h:i<ts.length) (hl:s.length=ts.length):(bdL ts s)[i]? =some (z0s (v s i) (ts[i])):=by
 unfold bdL
 rw[List.getElem?_zipWith,q0c h,q0c (by lia)]
 have e:v s i=s[i]'(by lia):=by
  show s.getD i 0=_
  rw[q0b,q0c (by lia)];rfl
 show some (z0s (s[i]'(by lia)) ts[i])=_
 rw[e]
theorem y4h {ts:List (List Int)}{s:List Int} (hl:s.length=ts.length) {b:List Int}:b∈bdL ts s↔∃i,∃h:i<ts.length,b=z0s (v s i) ts[i]:=by
 constructor
 ·intro hb
  obtain⟨i,hi⟩:=List.mem_iff_getElem?.mp hb
  have hlt:i<ts.length:=by
   have:=(q0t.mp hi).1
   unfold bdL at this
   rw[q1x] at this;lia
  rw[y6W hlt hl] at hi
  exact⟨i,hlt,(Option.some.inj hi).symm⟩
 ·rintro⟨i,h,rfl⟩
  exact q0E (y6W h hl)
end Ld
end L2
namespace L2
open Fr Wl Pt Rk
namespace Ld
end Ld
end L2
namespace L2
open Fr Wl Pt Rk
namespace Ld
end Ld
end L2
set_option maxHeartbeats 4000000
namespace L2
namespace Ld
open Rk Wl Pt Fr
theorem bto_pS:∀(n m:Nat) (ts:List (List Int)),ts.length≤n→(∀t∈ts,WL m t)→ts.Nodup→∀k,(bto n m ts).getD k 0=pS m [] ts k
 |n,m,ts,hl,hw,nd,k=>by
  by_cases he:ts=[]
  ·rw[he,z8j,pS,(Rws.nil (m:=m)).gS]
   show _=if 0+k=m then (1:Int) else 0
   rw[Nat.zero_add]
   by_cases h1:k<m
   ·rw[if_neg (by lia),q0b,q0L (by simpa using h1),List.getElem?_replicate,if_pos h1];rfl
   ·rw[q0b,q0D (by simpa using h1),q1p]
    by_cases h2:k=m
    ·rw[if_pos h2,h2,q1n];rfl
    ·rw[if_neg h2]
     obtain⟨i,hi⟩:∃i,k - m=i+1:=⟨k - m - 1,by lia⟩
     rw[hi];rfl
  obtain⟨A,t,rfl⟩:=z7B he
  have ht:=hw t (by simp)
  obtain⟨m,rfl⟩:∃k,m=k+1:=⟨m - 1,by have:=ht.fp;lia⟩
  rw[q0n,q0Y] at hl
  obtain⟨n,rfl⟩:∃k,n=k+1:=⟨n - 1,by lia⟩
  have nd':=List.nodup_append.mp nd
  have hA:∀u∈A,WL (m+1) u:=fun u hu=>hw u (q0B _ hu)
  have hout:=y6s (m:=m) (A:=A) (B:=[]) (t:=t) hw nd k
  rw[List.append_nil] at hout
  have hD:=y4y ht (fun u hu=>(hA u hu).len) (ts:=A)
  have hDn:(wd (drF t) A).Nodup :=by unfold wd;exact z6m _ _ (by simp)
  have hDl:=z8n (drF t) A
  have i1:=bto_pS n (m+1) A (by lia) hA nd'.1 k
  have i2:=bto_pS n m (wd (drF t) A) (by lia) hD hDn
  have l1:=z2X n (m+1) A hA
  have l2:=z2X n m (wd (drF t) A) hD
  rw[hout,z6p,←i1,z5t ht,Nat.add_sub_cancel,←i2 k]
  generalize bto n (m+1) A=x at l1 ⊢
  generalize bto n m (wd (drF t) A)=y at l2 ⊢
  rw[q0b,q0b,q0b,List.getElem?_zipWith]
  by_cases h1:k<m+1
  ·rw[q0L (by lia),q0c (by lia:k<x.length),q0c (by lia:k<y.length)];rfl
  ·rw[q1C (by lia:y.length≤k),q0D (by lia)]
   by_cases h2:k=m+1
   ·rw[q0c (by lia:k<x.length),show k - y.length=0 by lia];rfl
   ·rw[q1C (by lia:x.length≤k)];rfl
termination_by n _ ts=>n
end Ld
end L2
set_option maxHeartbeats 1000000
namespace L2
open PySem PySem.Spec PyProof.Rows
section
variable {X:Cx}
end
end L2
namespace L2
open PySem PySem.Spec PyProof.Rows
section
variable {κ:Type} [DecidableEq κ]
def y4A (kvs:List (κ×V)) (k:κ):Option V:=(kvs.find? fun kv=>decide (kv.1=k)).map (·.2)
def z9w (kvs:List (κ×V)) (k:κ) (v:V):List (κ×V):=
 if (kvs.any fun kv=>decide (kv.1=k))=true then kvs.map (fun kv=>if kv.1=k then (kv.1,v) else kv) else kvs++[(k,v)]
theorem z8o {p:κ×V}{r:List (κ×V)}{k:κ} (e:p.1=k):y4A (p::r) k=some p.2:=by simp[y4A,List.find?_cons,e]
theorem z8p {p:κ×V}{r:List (κ×V)}{k:κ} (e:¬p.1=k):y4A (p::r) k=y4A r k:=by simp[y4A,List.find?_cons,e]
theorem z8q (k:κ):∀kvs:List (κ×V),(kvs.any fun kv=>decide (kv.1=k))=(y4A kvs k).isSome
 |[]=>rfl
 |p::r=>by
  rw[List.any_cons]
  by_cases e:p.1=k
  ·simp only[z8o e,decide_eq_true e,Bool.true_or,Option.isSome_some]
  ·rw[z8p e,decide_eq_false e,Bool.false_or];exact z8q k r
theorem z4A (kvs:List (κ×V)) (k:κ) (v:V):(z9w kvs k v).length ≤kvs.length+1:=by
 unfold z9w
 split
 ·rw[q0a];lia
 ·rw[q0n,q0F,List.length_nil];lia
theorem RelO.isSome_eq {o:Option V}{u:Option Value} (r:RelO o u):o.isSome=u.isSome:=by
 cases o with
 |none=>cases u with
  |none=>rfl
  |some _=>exact (show False from r).elim
 |some _=>cases u with
  |none=>exact (show False from r).elim
  |some _=>rfl
theorem KV.any {kvs:List (κ×V)}{vs:List (κ×Value)} (r:KV kvs vs) (k:κ):(kvs.any fun kv=>decide (kv.1=k))=vs.any fun kv=>decide (kv.1=k):=by
 unfold KV at r
 induction r with
 |nil=>rfl
 |cons h t ih=>rw[List.any_cons,List.any_cons,ih,h.1]
theorem KV.repl {kvs:List (κ×V)}{vs:List (κ×Value)} (r:KV kvs vs) (k:κ) {y:V}{u:Value} (ry:RelV y u):
 KV (kvs.map fun kv=>if kv.1=k then (kv.1,y) else kv) (vs.map fun kv=>if kv.1=k then (kv.1,u) else kv):=by
 unfold KV at r ⊢
 induction r with
 |nil=>exact .nil
 | @cons p q ps qs h t ih=>
   rw[q0u,q0u]
   refine .cons ?_ ih
   obtain⟨h1,h2⟩:=h
   by_cases e:p.1=k
   ·rw[if_pos e,if_pos (h1.symm.trans e)];exact⟨h1,ry⟩
   ·rw[if_neg e,if_neg (fun z=>e (h1.trans z))];exact⟨h1,h2⟩
theorem KV.put {kvs:List (κ×V)}{vs:List (κ×Value)} (r:KV kvs vs) (k:κ) {y:V}{u:Value} (ry:RelV y u):KV (z9w kvs k y) (stored vs k u):=by
 unfold z9w stored
 rw[r.any k]
 by_cases e:(vs.any fun kv=>decide (kv.1=k))=true
 ·rw[if_pos e,if_pos e];exact r.repl k ry
 ·rw[if_neg e,if_neg e];exact Paired.snoc r ⟨rfl,ry⟩
theorem KV.length {kvs:List (κ×V)}{vs:List (κ×Value)} (r:KV kvs vs):kvs.length=vs.length:=Paired.length r
end
theorem y6K {P:Program}{w:World}{k:Key}{u:Value} (r:RelV (kV k) u):(z1p P w).is k u=true:=by
 cases k with
 |inl i=>obtain⟨t,e⟩:=(show ∃t,u=Value.int i t from r);subst e;exact z7Z P w i t
 |inr x=>obtain⟨t,e⟩:=(show ∃t,u=Value.str x t from r);subst e;exact z7Y P w x t
theorem z6Z {P:Program}{w:World}:∀{ks:List Key}{us:List Value},Vals (ks.map kV) us→ItemsAre (z1p P w) ks us
 |[],_,r=>by rw[List.map_nil] at r;cases r;exact .nil
 |k::ks,_,r=>by
  rw[q0u] at r
  cases r with
  |cons h t=>exact .cons (y6K h) (z6Z t)
abbrev KT (H:Hp):List (List Key×V)→List (List Key×Addr×Value)→Prop:=Paired fun p q=>p.1=q.1∧H q.2.1=some (.tup (p.1.map kV))∧RelV p.2 q.2.2
theorem KT.val {H:Hp}{kvs:List (List Key×V)}{xs:List (List Key×Addr×Value)} (r:KT H kvs xs) (k:List Key):RelO (y4A kvs k) ((atKey xs k).map (·.2)):=by
 induction r with
 |nil=>exact True.intro
 | @cons p q ps qs h t ih=>
   obtain⟨h1,_,h2⟩:=h
   by_cases e:p.1=k
   ·have e':q.1=k:=h1.symm.trans e
    have b:atKey (q::qs) k=some q.2:=by simp[atKey,List.find?_cons,e']
    rw[z8o e,b];exact h2
   ·have e':¬q.1=k:=fun z=>e (h1.trans z)
    have b:atKey (q::qs) k=atKey qs k:=by simp[atKey,List.find?_cons,e']
    rw[z8p e,b];exact ih
theorem KT.repl {H:Hp}{kvs:List (List Key×V)}{xs:List (List Key×Addr×Value)} (r:KT H kvs xs) (k:List Key) {y:V}{u:Value} (ry:RelV y u):
 KT H (kvs.map fun kv=>if kv.1=k then (kv.1,y) else kv) (xs.map (putAt k u)):=by
 induction r with
 |nil=>exact .nil
 | @cons p q ps qs h t ih=>
   rw[q0u,q0u]
   refine .cons ?_ ih
   obtain⟨h1,h2,h3⟩:=h
   unfold putAt
   by_cases e:p.1=k
   ·rw[if_pos e,if_pos (h1.symm.trans e)];exact⟨h1,h2,ry⟩
   ·rw[if_neg e,if_neg (fun z=>e (h1.trans z))];exact⟨h1,h2,h3⟩
theorem KT.put {H:Hp}{kvs:List (List Key×V)}{xs:List (List Key×Addr×Value)} (r:KT H kvs xs) (k:List Key) {b:Addr}{y:V}{u:Value} (hb:H b=some (.tup (k.map kV))) (ry:RelV y u):
 KT H (z9w kvs k y) (storedH xs k b u):=by
 have e:(kvs.any fun kv=>decide (kv.1=k))=(atKey xs k).isSome :=by
  rw[z8q,(r.val k).isSome_eq,Option.isSome_map]
 unfold z9w storedH
 rw[e]
 by_cases q:(atKey xs k).isSome =true
 ·rw[if_pos q,if_pos q];exact r.repl k ry
 ·rw[if_neg q,if_neg q];exact Paired.snoc r ⟨rfl,hb,ry⟩
theorem KT.keeps {H H':Hp}{kvs:List (List Key×V)}{xs:List (List Key×Addr×Value)} (r:KT H kvs xs) (ht:∀b ys,H b=some (.tup ys)→H' b=some (.tup ys)):KT H' kvs xs:=
 Paired.mapP r fun _ _ z=>⟨z.1,ht _ _ z.2.1,z.2.2⟩
section
variable {P:Program}{w:World}{H:Hp}{h:Heap}{a:Addr}
theorem y6g {u:HO} (ok:HOk P w H h) (e:Rd H a u):ObjOk P w H h a u:=e.ok ok
theorem dk_rd {kvs:List (Key×V)} (ok:HOk P w H h) (e:Rd H a (.dK kvs)):kvs.length≤sizeLine∧(a==sysModules)=false∧∃vs,KV kvs vs∧h.DictOf (z1p P w) a vs:=
 show ObjOk P w H h a (.dK kvs) from y6g ok e
theorem dk_of {kvs:List (Key×V)} (ok:HOk P w H h) (e:H a=some (.dK kvs)):kvs.length≤sizeLine∧(a==sysModules)=false∧∃vs,KV kvs vs∧h.DictOf (z1p P w) a vs:=dk_rd ok (.inl e)
theorem y4m {ks:List Key} (ok:HOk P w H h) (e:H a=some (.tup (ks.map kV))):(tupleKind (z1p P w)).is h ks a:=by
 obtain⟨_,its,r,o,h1,h2,n,h3⟩:=(show ObjOk P w H h a (.tup (ks.map kV)) from ok a _ e)
 exact⟨o,its.toArray,n,h1,h2,h3,by simpa using z6Z r⟩
theorem dt_rd {kvs:List (List Key×V)} (ok:HOk P w H h) (e:Rd H a (.dT kvs)):kvs.length≤sizeLine∧(a==sysModules)=false∧
 ∃xs,KT H kvs xs∧h.DictOfH (tupleKind (z1p P w)) a xs:=by
 obtain⟨z,y,xs,r,o,es,ep,h1,h2,h3,h4,h5⟩:=(show ObjOk P w H h a (.dT kvs) from y6g ok e)
 refine⟨z,y,xs,r,o,es,ep,h1,h2,h3,h4,fun x hx=>?_,h5⟩
 have all:∀{l:List (List Key×V)}{m:List (List Key×Addr×Value)},KT H l m→∀x∈m,(tupleKind (z1p P w)).is h x.1 x.2.1:=by
  intro l m q
  induction q with
  |nil=>intro x hx;exact nomatch hx
  | @cons p q ps qs hq t ih=>
    intro x hx
    rcases q0r.mp hx with e|hx
    ·subst e
     exact y4m ok (by rw[←hq.1];exact hq.2.1)
    ·exact ih x hx
 exact all r x hx
theorem y6S {kvs:List (List Key×V)} (ok:HOk P w H h) (e:H a=some (.dT kvs)):kvs.length≤sizeLine∧(a==sysModules)=false∧
 ∃xs,KT H kvs xs∧h.DictOfH (tupleKind (z1p P w)) a xs:=dt_rd ok (.inl e)
end
def DPut (H:Hp) (a:Addr) (y v:V) (H':Hp):Prop:=
 (∃kvs k,H a=some (.dK kvs)∧y=kV k∧kvs.length<sizeLine∧H'=upd H a (.dK (z9w kvs k v)))∨
 ∃kvs k b,H a=some (.dT kvs)∧y= .ref b∧H b=some (.tup (k.map kV))∧kvs.length<sizeLine∧H'=upd H a (.dT (z9w kvs k v))
theorem DPut.t {H:Hp}{a b:Addr}{kvs:List (List Key×V)}{k:List Key}{v:V} (e:H a=some (.dT kvs)) (eb:H b=some (.tup (k.map kV))) (hl:kvs.length<sizeLine):
 DPut H a (.ref b) v (upd H a (.dT (z9w kvs k v))):= .inr ⟨kvs,k,b,e,rfl,eb,hl,rfl⟩
section
variable {X:Cx}{pins:List (Addr×Obj)}{σ:St}{H:Hp}{s:Shared}{a:Addr}{y v:V}{u r:Value}{o:Option V}{A:Around}{E:Value→Shared→Prop}
theorem Inv.big (I:Inv X pins σ H s):sysModules<s.heap.objs.size:=by
 have h:mainGlobals<s.heap.objs.size:=(I.mod.glob.keeps I.bk).lt
 exact Nat.lt_trans (by decide) h
theorem y2p {h':Heap}{t':Nat}{ob:HO} (I:Inv X pins σ H s) (mu:Mut (H a)) (hs:Heap.SameBut a s.heap h') (he:∃q,h'.get? a=some q) (new:ObjOk X.prog X.w (upd H a ob) h' a ob):
 Inv X pins σ (upd H a ob) {s with heap:=h',toks:=t'}:=
 I.write (x:=a) (e:=a) mu (.inl rfl) (fun b q hb z=>(hs.2 b hb).trans z) he new
theorem y6T {P:Program}{w:World}{H':Hp}{h':Heap}{kvs:List (Key×V)}{vs:List (Key×Value)} (z:kvs.length≤sizeLine) (hd:(a==sysModules)=false) (rel:KV kvs vs) (dd:h'.DictOf (z1p P w) a vs):
 ObjOk P w H' h' a (.dK kvs):=⟨z,hd,vs,rel,dd⟩
theorem y2q {H':Hp}{Q:Unit→Shared→Prop} (hu:A.units+1<cLine) (I:Inv X pins σ H s) (g:DPut H a y v H') (ry:RelV y u) (rv:RelV v r) (h:∀s',Inv X pins σ H' s'→Q () s'):
 wpAny (model X.prog X.w) A (setItem (.ref a) u r) Q E s:=by
 rcases g with⟨kvs,k,e,ey,l,eH⟩|⟨kvs,k,b,e,ey,eb,l,eH⟩
 ·subst ey eH
  obtain⟨z,hd,vs,rel,dd⟩:=dk_of I.hok e
  have hz:vs.length≤sizeLine:=by rw[←rel.length];exact z
  have hl:(z9w kvs k v).length ≤sizeLine:=by have:=z4A kvs k v;lia
  refine wpAny_setItem_pairs (hsz:=hz) (y6K ry) dd fun h' dd' hs=>h _ ?_
  have he:∃q,h'.get? a=some q:=let ⟨q,_,_,hq,_⟩:=dd';⟨q,hq⟩
  exact y2p I (by rw[e];exact True.intro) hs he (y6T hl hd (rel.put k rv) dd')
 ·subst ey eH
  cases (show u=Value.ref b from ry)
  obtain⟨z,hd,xs,rel,dd⟩:=y6S I.hok e
  have hz:xs.length≤sizeLine:=by rw[←Paired.length rel];exact z
  have hl:(z9w kvs k v).length ≤sizeLine:=by have:=z4A kvs k v;lia
  refine wpAny_setItem_heap (hsz:=hz) (tupleKind_room_in1 hu) (y4m I.hok eb) dd fun h' dd' hs=>h _ ?_
  obtain⟨q,es,ep,hq,h2,h3,h4,_,h5⟩:=dd'
  refine y2p I (by rw[e];exact True.intro) hs ⟨q,hq⟩ ⟨hl,hd,_,(rel.put k eb rv).keeps fun c ys ec=>?_,q,es,ep,hq,h2,h3,h4,h5⟩
  rw[z0l (ne_of ec e (fun z=>nomatch z))]
  exact ec
end
section
variable {X:Cx}{pins:List (Addr×Obj)}{σ:St}{H:Hp}{s:Shared}{a:Addr}{kvs:List (Key×V)}{k:Key}{u:Value}{A:Around}{E:Value→Shared→Prop}
end
def sDPut (td ty tv:TE):TS:=fun D σ H=>tv σ H fun v H1=>td σ H1 fun x H2=>ty σ H2 fun y H3=>∃a H4,x= .ref a∧DPut H3 a y v H4∧D.nx σ H4
section
variable {X:Cx}{o i e value:Expr}{pos pos' tpos:Pos}{td ty tv:TE}
theorem y4Q (hu:X.A.units+1<cLine) (ho:PE X o td) (hi:PE X i ty) (hv:PE X value tv) (hs:swapsWith value (some (.Subscript o i pos')) pos.line X.env=pure false):
 PS X (.Assign [.Subscript o i pos'] value pos) (sDPut td ty tv):=by
 intro pins s σ H D I h
 refine wpAny_Assign_Subscript (thn (hv pins s σ H _ I h) fun r s1 ⟨v,H1,I1,rv,q1⟩=>thn (ho pins s1 σ H1 _ I1 q1) fun u s2 ⟨x,H2,I2,rx,q2⟩=>thn (hi pins s2 σ H2 _ I2 q2) fun iv s3 ⟨y,H3,I3,ry,a,H4,ex,g,q3⟩=>?_) hs
 subst ex
 obtain rfl:u=Value.ref a:=rx
 exact y2q hu I3 g ry rv fun s4 I4=>⟨σ,H4,I4,q3⟩
end
theorem y3H {P:Program}{w:World}{H:Hp} (h:Heap) (hb:sysModules<h.objs.size):ObjOk P w H (h.push {cls:= .type "dict",data:= .dict #[]}) h.objs.size (.dT []):=
 ⟨q0S _,beq_eq_false_iff_ne.mpr (Ne.symm (q0w hb)),[],.nil,_,#[],0,q0s _ rfl,⟨rfl,rfl,rfl⟩,rfl,rfl,List.nodup_nil⟩
def y5Y:TE:=fun _ H Q=>∀p,H p=none→Q (.ref p) (upd H p (.dT []))
section
variable {X:Cx}{pos:Pos}
theorem y3f:PE X (.Dict [] [] pos) y5Y:=fun pins s σ H Q I h=>
 wpAny_Dict_empty ⟨.ref s.heap.objs.size,_,I.laid (a:=s.heap.objs.size) (o:= .dT []) (t':=s.toks) (fun _ _ q=>q0d _ q) (q0j _) (y3H s.heap I.big),rfl,h _ (I.hok.fresh (q0j _))⟩
end
end L2
namespace L2
open PySem PySem.Spec PyProof.Rows
section
theorem y2J {M:Model}{A:Around}{E:Value→Shared→Prop}{s:Shared}{Q:Value→Shared→Prop}
 (q:∀(h':Heap) (e:Addr),(∀b o,s.heap.get? b=some o→h'.get? b=some o)→(∃oe,h'.get? e=some oe∧oe.cls= .type "StopIteration")→Q (.ref e) {s with heap:=h'}):
 wpAny M A (newExc (Value.type "StopIteration") []) Q E s:=by
 rw[newExc.eq_1]
 obtain⟨hp,g,d,tk,os⟩:=s
 unfold newTuple
 refine wpAny_bind (wpAny_newObj_type ?_ (by size_fits))
 have:firstArgMember (Value.type "StopIteration") []=pure Value.none:=by
  with_unfolding_all rfl
 rw[this]
 refine wpAny_bind (wpAny_pure ?_)
 refine wpAny_newObj_type ?_ (by size_fits)
 refine q _ _ (fun b o e=>q0d _ (q0d _ e)) ⟨_,q0s _ rfl,rfl⟩
variable {prog:Program}{w:World}{A:Around}{E:Value→Shared→Prop}{s:Shared}{it d:Addr}{i n ep:Nat}{o:Obj}{es:Array DictEntry}{e:DictEntry}
section
variable {Q:Option Value→Shared→Prop}
theorem y3z (hI:s.heap.IsKeyIter it d i n ep) (hd:s.heap.get? d=some o) (ho:o.data= .dict es ep) (hn:es.size=n) (he:es[i]? =some e)
 (q:∀h',h'.IsKeyIter it d (i+1) n ep→Heap.ExtBut it s.heap h'→Q (some e.key) {s with heap:=h'}):wpAny (model prog w) A (pyNext (.ref it)) Q E s:=by
 unfold pyNext
 refine wpAny_bind (wpAny_attempt (wpAny_callSpecial?_slot hI.typeIs F.slot_dict_keyiterator_next (call_meetsIn F.slot_dict_keyiterator_next hI.typeIs F.entry_dict_keyiterator_next (F.args_dict_keyiterator_next_1 _) (S:=fun A R s=>wpAny (model prog w) A.in1 (Builtin.«dict_keyiterator.__next__» {pos:=[Value.ref it]}) (fun fin s'=>
  match fin with
  |Fin.done f=>R (Except.ok f) s'
  |Fin.again c'=>c'.quiet=true∧codeAny (model prog w) A c' R s')
        (fun e s'=>R (Except.error e) s') s) (fun _ _ _ h=>h) ?_)))
 obtain⟨oi,h1,h2,h3⟩:=hI
 have hT:s.TypeIs (Value.ref it) "dict_keyiterator":=Heap.IsKeyIter.typeIs (d:=d) (i:=i) (n:=n) (ep:=ep) ⟨oi,h1,h2,h3⟩
 show wpAny _ _ (Builtin.Dict_items.slot0 "__next__" {pos:=[Value.ref it]}>>= _) _ _ s
 refine wpAny_bind ?_
 show wpAny _ _ (pure (Value.ref it)) _ _ s
 refine wpAny_pure ?_
 refine wpAny_bind ?_
 have hbase:∀{s:Shared}{Q:Nat→Shared→Prop}{E:Value→Shared→Prop},s.TypeIs (Value.ref it) "dict_keyiterator"→Q 0 s→wpAny (model prog w) A.in1 (typeNameOfWhole (Value.ref it)>>= fun n=>pure (if Builtin.Dict_items.ownsTuple n=true then 2 else 0)) Q E s:=fun hT q=>
  wpAny_bind (wpAny_typeNameOfWhole_keyiter hT (wpAny_pure q))
 show wpAny _ _ ((typeNameOfWhole (Value.ref it)>>= fun n=>pure (if Builtin.Dict_items.ownsTuple n=true then 2 else 0))>>= _) _ _ s
 refine wpAny_bind (hbase hT ?_)
 refine wpAny_bind (wpAny_fieldsOf h1 h3 ?_)
 show wpAny _ _ (Builtin.Dict_items.addrOf (Value.ref d)>>= _) _ _ s
 refine wpAny_bind (wpAny_pure ?_)
 refine wpAny_bind (wpAny_dictEntries hd ho ?_)
 dsimp only
 rw[if_neg (by rw[hn];simp)]
 refine wpAny_bind (wpAny_pure ?_)
 refine wpAny_bind (wpAny_dictEpoch hd ho ?_)
 rw[if_neg (by simp)]
 refine wpAny_pure ?_
 dsimp only
 rw[if_neg (by lia),q0J,he]
 dsimp only
 refine wpAny_bind (hbase hT ?_)
 refine wpAny_bind (wpAny_isOneOf_keyiter hT ?_)
 rw[if_neg (by decide)]
 have hsz:0+1<(#[Value.ref d,Value.int (i:Int) 0,Value.int (n:Int) 0,Value.int (ep:Int) 0]:Array Value).size :=(by show 0+1<4;decide)
 refine wpAny_bind (wpAny_setField h1 h3 hsz ?_)
 have m1:=z6U h3 (·.setIfInBounds (0+1) (rawInt ((i:Int)+1)))
 have e2:(s.heap.update it (Obj.mapFields (·.setIfInBounds (0+1) (rawInt ((i:Int)+1))))).get? it=some {oi with data:= .fields #[Value.ref d,Value.int ((i+1:Nat):Int) 0,Value.int (n:Int) 0,Value.int (ep:Int) 0]}:=by
  have:=Heap.get?_update_self (Obj.mapFields (·.setIfInBounds (0+1) (rawInt ((i:Int)+1)))) h1 (Obj.isFreed_of_fields (Obj.data_mapFields h3 _))
  rw[m1] at this
  exact this
 have kI:(s.heap.update it (Obj.mapFields (·.setIfInBounds (0+1) (rawInt ((i:Int)+1))))).IsKeyIter it d (i+1) n ep:=⟨_,e2,h2,rfl⟩
 have sb:Heap.ExtBut it s.heap (s.heap.update it (Obj.mapFields (·.setIfInBounds (0+1) (rawInt ((i:Int)+1))))):=fun b u hb e=>by rw[q1m _ _ (Ne.symm hb)];exact e
 refine wpAny_bind (wpAny_holding ?_)
 show wpAny _ _ (Builtin.Dict_items.isOneOf (Value.ref it) ["dict_keyiterator","dict_reversekeyiterator"]>>= _) _ _ _
 refine wpAny_bind (wpAny_isOneOf_keyiter kI.typeIs ?_)
 rw[if_pos (by decide)]
 refine wpAny_pure ?_
 refine wpAny_pure ?_
 refine wpAny_pure ?_
 exact q _ kI sb
theorem y5q (hI:s.heap.IsKeyIter it d i n ep) (hd:s.heap.get? d=some o) (ho:o.data= .dict es ep) (hn:es.size=n) (he:es[i]? =none) (hh:A.handled=none)
 (q:∀h',Heap.ExtBut it s.heap h'→Q none {s with heap:=h'}):wpAny (model prog w) A (pyNext (.ref it)) Q E s:=by
 unfold pyNext
 refine wpAny_bind (wpAny_attempt (wpAny_callSpecial?_slot hI.typeIs F.slot_dict_keyiterator_next (call_meetsIn F.slot_dict_keyiterator_next hI.typeIs F.entry_dict_keyiterator_next (F.args_dict_keyiterator_next_1 _) (S:=fun A R s=>wpAny (model prog w) A.in1 (Builtin.«dict_keyiterator.__next__» {pos:=[Value.ref it]}) (fun fin s'=>
  match fin with
  |Fin.done f=>R (Except.ok f) s'
  |Fin.again c'=>c'.quiet=true∧codeAny (model prog w) A c' R s')
        (fun e s'=>R (Except.error e) s') s) (fun _ _ _ h=>h) ?_)))
 obtain⟨oi,h1,h2,h3⟩:=hI
 have hT:s.TypeIs (Value.ref it) "dict_keyiterator":=Heap.IsKeyIter.typeIs (d:=d) (i:=i) (n:=n) (ep:=ep) ⟨oi,h1,h2,h3⟩
 show wpAny _ _ (Builtin.Dict_items.slot0 "__next__" {pos:=[Value.ref it]}>>= _) _ _ s
 refine wpAny_bind ?_
 show wpAny _ _ (pure (Value.ref it)) _ _ s
 refine wpAny_pure ?_
 refine wpAny_bind ?_
 have hbase:∀{s:Shared}{Q:Nat→Shared→Prop}{E:Value→Shared→Prop},s.TypeIs (Value.ref it) "dict_keyiterator"→Q 0 s→wpAny (model prog w) A.in1 (typeNameOfWhole (Value.ref it)>>= fun n=>pure (if Builtin.Dict_items.ownsTuple n=true then 2 else 0)) Q E s:=fun hT q=>
  wpAny_bind (wpAny_typeNameOfWhole_keyiter hT (wpAny_pure q))
 show wpAny _ _ ((typeNameOfWhole (Value.ref it)>>= fun n=>pure (if Builtin.Dict_items.ownsTuple n=true then 2 else 0))>>= _) _ _ s
 refine wpAny_bind (hbase hT ?_)
 refine wpAny_bind (wpAny_fieldsOf h1 h3 ?_)
 show wpAny _ _ (Builtin.Dict_items.addrOf (Value.ref d)>>= _) _ _ s
 refine wpAny_bind (wpAny_pure ?_)
 refine wpAny_bind (wpAny_dictEntries hd ho ?_)
 dsimp only
 rw[if_neg (by rw[hn];simp)]
 refine wpAny_bind (wpAny_pure ?_)
 refine wpAny_bind (wpAny_dictEpoch hd ho ?_)
 rw[if_neg (by simp)]
 refine wpAny_pure ?_
 dsimp only
 rw[if_neg (by lia),q0J,he]
 dsimp only
 refine wpAny_bind (hbase hT ?_)
 have hsz:0<(#[Value.ref d,Value.int (i:Int) 0,Value.int (n:Int) 0,Value.int (ep:Int) 0]:Array Value).size :=(by show 0<4;decide)
 refine wpAny_bind (wpAny_setField h1 h3 hsz ?_)
 have sb:Heap.ExtBut it s.heap (s.heap.update it (Obj.mapFields (·.setIfInBounds 0 Value.none))):=fun b u hb e=>by rw[q1m _ _ (Ne.symm hb)];exact e
 refine wpAny_bind (y2J fun h' e kp ⟨oe,e1,e2⟩=>?_)
 refine wpAny_raiseNew_none hh ?_
 refine wpAny_bind (wpAny_isInstance (T:="StopIteration") ⟨oe,e1,e2⟩ (b:=true) (by with_unfolding_all rfl) ?_)
 rw[if_pos rfl]
 refine wpAny_pure ?_
 exact q _ fun b u hb e=>kp b u (sb b u hb e)
end
theorem z9T {Q:Value→Shared→Prop} (hd:s.heap.get? d=some o) (hc:o.cls= .type "dict") (ho:o.data= .dict es ep) (hs:(d==sysModules)=false)
 (q:Q (.ref s.heap.objs.size) {s with heap:=s.heap.push {cls:= .type "dict_keyiterator",data:= .fields #[.ref d,.int 0 0,.int (es.size:Int) 0,.int (ep:Int) 0]}}):wpAny (model prog w) A (pyIter (.ref d)) Q E s:=by
 have hT:s.TypeIs (Value.ref d) "dict":=⟨o,hd,hc⟩
 refine wpAny_pyIter_slot hT F.slot_dict_iter (call_meetsIn F.slot_dict_iter hT F.entry_dict_iter (F.args_dict_iter_1 _) (S:=fun A R s=>wpAny (model prog w) A.in1 (Builtin.«dict.__iter__» {pos:=[Value.ref d]}) (fun fin s'=>
  match fin with
  |Fin.done f=>R (Except.ok f) s'
  |Fin.again c'=>c'.quiet=true∧codeAny (model prog w) A c' R s')
        (fun e s'=>R (Except.error e) s') s) (fun _ _ _ h=>h) ?_)
 show wpAny _ _ (Builtin.Dict.dictSlotNone "__iter__" {pos:=[Value.ref d]}>>= _) _ _ s
 refine wpAny_bind ?_
 show wpAny _ _ (Builtin.Dict.notOrdered "__iter__" {pos:=[Value.ref d]}>>= _) _ _ s
 refine wpAny_bind ?_
 show wpAny _ _ (typeOf (Value.ref d)>>= _) _ _ s
 refine wpAny_bind (wpAny_typeOf hT ?_)
 rw[if_neg (by decide)]
 refine wpAny_pure ?_
 show wpAny _ _ (pure (Value.ref d)) _ _ s
 refine wpAny_pure ?_
 refine wpAny_bind (wpAny_pure ?_)
 unfold Builtin.Dict.showsAll
 rw[hs]
 refine wpAny_bind ?_
 rw[if_neg (by decide)]
 refine wpAny_pure ?_
 refine wpAny_bind (wpAny_dictEntries hd ho ?_)
 refine wpAny_bind (wpAny_dictEpoch hd ho ?_)
 unfold newFields
 refine wpAny_bind (wpAny_newObj_type ?_ (by size_fits))
 refine wpAny_pure ?_
 exact⟨_,_,⟨_,q0s _ rfl,rfl⟩,F.slot_dict_keyiterator_next.lookup,q⟩
def DAt (d:Addr) (es:Array DictEntry) (ep:Nat) (h:Heap):Prop:=∃o,h.get? d=some o∧o.cls= .type "dict"∧o.data= .dict es ep
theorem y1L (hh:A.handled=none) (I:Addr) (hn:d≠I):Walks prog w A I [I,d] [I] es.size (fun i v=>∃e,es[i]? =some e∧v=e.key) (fun i h=>h.IsKeyIter I d i es.size ep∧DAt d es ep h) where
 sub:=fun b hb=>by rw[q0m.mp hb];exact q0k
 frame:=fun i h h' ⟨⟨oi,a1,a2,a3⟩,⟨o,b1,b2,b3⟩⟩ k=>⟨⟨oi,k _ (by simp) _ a1,a2,a3⟩,⟨o,k _ (by simp) _ b1,b2,b3⟩⟩
 item:=fun i s Q E hi ⟨hI,⟨o,b1,b2,b3⟩⟩ q=>y3z hI b1 b3 rfl (Array.getElem?_eq_getElem hi) fun h' kI x=>q _ h' s.toks ⟨_,Array.getElem?_eq_getElem hi,rfl⟩ ⟨kI,⟨o,x _ _ hn b1,b2,b3⟩⟩ fun b o hb e=>x b o (fun z=>hb (by rw[z];exact q0m.mpr rfl)) e
 done:=fun s Q E ⟨hI,⟨o,b1,b2,b3⟩⟩ q=>y5q hI b1 b3 rfl (Array.getElem?_eq_none (q0j _)) hh fun h' x=>q h' s.toks fun b o hb e=>x b o (fun z=>hb (by rw[z];exact q0m.mpr rfl)) e
 self:=fun i s Q E ⟨hI,_⟩ q=>wpAny_pyIter_keyiter hI q
theorem y5p (hs:(d==sysModules)=false):W.KdlSrc prog w "dict" d d es.size (fun i v=>∃e,es[i]? =some e∧v=e.key) (DAt d es ep) where
 type:=fun s ⟨o,h1,h2,_⟩=>⟨o,h1,h2⟩
 there:=fun h ⟨o,h1,_,_⟩=>⟨q0q h1,q0q h1⟩
 keep:=fun h h' ⟨o,h1,h2,h3⟩ k=>⟨o,k _ (.inl rfl) _ h1,h2,h3⟩
 notList:=by decide
 notTuple:=by decide
 hint:=fun A E s Q ⟨o,h1,h2,_⟩ q=>W.kdl_hint_dict ⟨o,h1,h2⟩ q
 iter:=fun A s hh ⟨o,h1,h2,h3⟩=>⟨_,_,fun E Q q=>z9T h1 h2 h3 hs q,y1L hh _ (q0w (q0q h1)),⟨_,q0s _ rfl,rfl,rfl⟩,⟨o,q0d _ h1,h2,h3⟩⟩
end
section
variable {X:Cx}
def y6V:List V→Hp→VK→Prop:=fun xs H Q=>∃(a:Addr) (kvs:List (List Key×V)),xs=[.ref a]∧H a=some (.dT kvs)∧kvs.length≤1000∧∀(l:Addr) (bs:List Addr),H l=none→bs.length=kvs.length→
 (∀(i:Nat) (b:Addr) (k:List Key) (v:V),bs[i]? =some b→kvs[i]? =some (k,v)→H b=some (.tup (k.map kV)))→Q (.ref l) (upd H l (.lst (bs.map V.ref)))
theorem z6J:∀(bs:List Addr) (us:List Value),us.length=bs.length→(∀(i:Nat) (u:Value),us[i]? =some u→∃b,bs[i]? =some b∧u= .ref b)→Vals (bs.map V.ref) us
 |[],us,h,_=>by
  have:us=[]:=q0V.mp h
  subst this
  exact .nil
 |b::bs,[],h,_=>by simp at h
 |b::bs,u::us,h,hx=>by
  obtain⟨b',e1,e2⟩:=hx 0 u rfl
  have e3:b=b':=by simpa using e1
  subst e3
  rw[q0u]
  exact .cons (by rw[e2];rfl) (z6J bs us (by simpa using h) fun i u hu=>by
   obtain⟨b',z1,z2⟩:=hx (i+1) u (by simpa using hu)
   exact⟨b',by simpa using z1,z2⟩)
theorem kt_at {H:Hp}{kvs:List (List Key×V)}{xs:List (List Key×Addr×Value)} (r:KT H kvs xs):∀(i:Nat) (b:Addr) (k:List Key) (v:V),(xs.map (·.2.1))[i]? =some b→kvs[i]? =some (k,v)→H b=some (.tup (k.map kV)):=by
 induction r with
 |nil=>intro i b k v h;simp at h
 | @cons p q ps qs h t ih=>
   intro i b k v h1 h2
   cases i with
   |zero=>
    have e1:q.2.1=b:=by simpa using h1
    have e2:p=(k,v):=by simpa using h2
    subst e2
    rw[←e1];exact h.2.1
   |succ i=>exact ih i b k v (by simpa using h1) (by simpa using h2)
theorem y0d (hc:X.calm=true):z2t X (.type "list") y6V:=by
 intro pins s σ H xs us Q I r h
 obtain⟨a,kvs,rfl,ha,hn,q⟩:=h
 obtain⟨u,rfl,rx⟩:=r.one
 cases rx
 obtain⟨z,hd,ys,rel,o,es,ep,h1,h2,h3,h4,h5,h6⟩:=y6S I.hok ha
 have hl:es.size=ys.length:=by rw[←q1z,h4,q0a]
 have hl2:kvs.length=ys.length:=Paired.length rel
 have hz:sizeLine=16777216:=sizeLine_eq
 refine W.kdl_call (y5p (es:=es) (ep:=ep) hd) (I.ok.hd hc) ⟨o,h1,h2.1,h3⟩ (by lia) fun h' tk acc' c' kp e itm=>?_
 have rv:Vals ((ys.map (·.2.1)).map V.ref) acc'.toList:=by
  refine z6J _ _ (by rw[q0a,q1z,itm.1,hl]) fun i u hu=>?_
  obtain⟨en,e1,e2⟩:=itm.2 i u (by rw[←Array.getElem?_toList];exact hu)
  have e3:(es.toList)[i]? =some en:=by rw[Array.getElem?_toList];exact e1
  rw[h4,q0h] at e3
  obtain⟨y,y1,y2⟩:=q0v.mp e3
  exact⟨y.2.1,by rw[q0h,y1];rfl,by rw[e2,←y2];rfl⟩
 refine⟨.ref s.heap.objs.size,_,I.laid (o:= .lst ((ys.map (·.2.1)).map V.ref)) (t':=tk) kp (q0j _) ?_,rfl,q _ _ (I.hok.fresh (q0j _)) (by rw[q0a];lia) (kt_at rel)⟩
 exact⟨by rw[q0a,q0a];lia,acc'.toList,c',rv,by simpa using e⟩
end
end L2
namespace L2
open PySem PySem.Spec PyProof.Rows
section
variable {X:Cx}
end
end L2
namespace L2
open PySem PySem.Spec PySem.W PyProof.Rows
section
variable {X:Cx}{mth cx n:Str}{apos cpos xpos hp hpos tpos:Pos}{o e:Expr}{es:List Expr}{tob:TE}{ta:TA}{k j:Nat}{ps:List Str}{sp:Sp}{W C0 g:Addr}{gd:FuncData}{st0:Stmt}{ts:TS}
end
end L2
namespace L2
open PySem PySem.Spec PyProof.Rows
section
variable {X:Cx}
end
section
variable {X:Cx}{pins:List (Addr×Obj)}{σ:St}{H:Hp}{s:Shared}
def y6i (K:PySem.W.Frag):R2:=fun x y H Q=>∃(a b:Addr) (xs:List V),x= .ref a∧y= .ref b∧SqL K H a xs∧SqL K H b []∧Q (.bl xs.isEmpty) H
theorem y3g {K:PySem.W.Frag} (hK:X.K=K) (hu:X.A.units+64<cLine):OpR X (compareOp .Eq) (y6i K):=by
 subst hK
 intro pins s σ H x y v u Q I r1 r2 h
 obtain⟨a,b,xs,rfl,rfl,q1,q2,q⟩:=h
 cases (show v=Value.ref a from r1)
 cases (show u=Value.ref b from r2)
 obtain⟨its,rv,p,hz⟩:=I.list q1
 obtain⟨its2,rv2,p2,hz2⟩:=I.list q2
 have l1:=rv.length
 have l2:=rv2.length
 have e2:its2=[]:=q0V.mp (by rw[←l2];rfl)
 subst e2
 cases xs with
 |nil=>
  have e1:its=[]:=q0V.mp (by rw[←l1];rfl)
  subst e1
  have t:=SeqAt.RcAt.lists (A:=X.A) (s:=s) (e:=fun _=>true) p.isList p2.isList rfl (by lia) (fun j h1 h2=>by simp at h1)
  exact t _ _ _ _ ⟨.bl true,H,I,rfl,q⟩
 |cons x0 xs=>
  have sz:(its.toArray.size != ([]:List Value).toArray.size)=true:=by
   rw[q0e,←l1]
   simp
  have t:=SeqAt.RcAt.lists_lengths (A:=X.A) (s:=s) p.isList p2.isList sz (by lia)
  exact t _ _ _ _ ⟨.bl false,H,I,rfl,q⟩
end
end L2
namespace L2
open PySem PySem.Spec PyProof.Rows
section
variable {X:Cx}
end
end L2
namespace L2
open PySem PySem.Spec PyProof.Rows
theorem z0X {δ:Type}{J:It}{n:Nat}{Ok:Hp→Prop}{xs:List V} (ds:List δ) (hx:n=ds.length) (R:z6r J n Ok (fun i H x H'=>H'=H∧xs[i]? =some x)) {fr:List (Option Nat)}{g:TG}{tt:TT}{te:TE}{σ:St}{H1:Hp}{Q:VK}{D:Addr} (hD:H1 D=none) (pt:δ→St→St) (hpt:∀d e σ,pt d (pt e σ)=pt d σ) (tst:δ→Bool) (Rel:Hp→δ→V→Prop)
 (hrel:∀H H' d u,(∀b o,b≠D→H b=some o→H' b=some o)→(∃acc,H D=some (.lst acc))→Rel H d u→Rel H' d u)
 (hok:∀H,Same H1 H→Ok H) (hn:n≤sizeLine)
 (hg:∀(i:Nat) x d,xs[i]? =some x→ds[i]? =some d→∀σ H,Same H1 H→∀S:St→Hp→Prop,S (pt d σ) H→g x σ H S)
 (ht:∀d∈ds,∀Hc,Same H1 Hc→∀S:Bool→Hp→Prop,(∀H',Same Hc H'→S (tst d) H')→tt (pt d (z0H fr σ)) Hc S)
 (hv:∀d∈ds,tst d=true→∀Hc,Same H1 Hc→(∃acc,Hc D=some (.lst acc))→∀S:VK,(∀u H',Same Hc H'→Rel H' d u→S u H')→te (pt d (z0H fr σ)) Hc S)
 (q:∀us H',Same H1 H'→H' D=some (.lst us)→Each (Rel H') (ds.filter tst) us→Q (.ref D) H'):
 z3E J g tt te Q D (z0H fr σ) (upd H1 D (.lst [])):=by
 subst hx
 refine z4I R (fun i acc σ' H'=>((∃e,σ'=pt e (z0H fr σ))∨σ'=z0H fr σ)∧Same H1 H'∧H' D=some (.lst acc)∧Each (Rel H') ((ds.take i).filter tst) acc) ⟨.inr rfl,z0f hD _,z0d,.nil⟩ ?_ hn ?_ ?_
 ·rintro i acc σ' H' hi ⟨_,hs,_,he⟩
  refine⟨hok _ hs,?_⟩
  rw[←he.length]
  refine q0p (q1q _ _) ?_
  rw[q0o];lia
 ·rintro N i x acc σ' H' H'' hi ⟨hσ,hs,hd,he⟩ ⟨rfl,hx⟩ n1 n2
  have hdi:ds[i]? =some ds[i]:=q0c hi
  have hm:ds[i]∈ds:=q0A hi
  generalize ds[i]=d at hdi hm
  have es:pt d σ'=pt d (z0H fr σ):=by
   rcases hσ with⟨e,rfl⟩|rfl
   ·rw[hpt]
   ·rfl
  refine hg i x d hx hdi _ _ hs _ ?_
  rw[es]
  have tk:ds.take (i+1)=ds.take i++[d]:=by rw[q0R,hdi];rfl
  refine ht d hm _ hs _ fun H3 g3=>?_
  have hs3:=hs.trans g3
  have hd3:=g3 _ _ hd
  have he3:Each (Rel H3) ((ds.take i).filter tst) acc:=he.imp fun a b h=>hrel _ _ _ _ (fun c o _ e=>g3 _ _ e) ⟨_,hd⟩ h
  cases hb:tst d with
  |true=>
   refine z4N ?_
   refine hv d hm hb _ hs3 ⟨_,hd3⟩ _ fun u H4 g4 hr=>?_
   have hd4:=g4 _ _ hd3
   refine n1 _ _ _ hd4 ⟨.inl ⟨_,rfl⟩,fun c o e=>?_,z0d,?_⟩
   ·rw[z0l (z0h e hD)];exact g4 _ _ (hs3 _ _ e)
   ·have up:∀a b,Rel H4 a b→Rel (upd H4 D (.lst (acc++[u]))) a b:=fun a b h=>hrel _ _ _ _ (fun c o hc e=>by rw[z0l hc];exact e) ⟨_,hd4⟩ h
    rw[tk,q0W,q1f hb]
    exact ((he3.imp fun a b h=>up a b (hrel _ _ _ _ (fun c o _ e=>g4 _ _ e) ⟨_,hd3⟩ h)).snoc (up _ _ hr))
  |false=>
   refine z1I ?_
   refine n2 _ _ ⟨.inl ⟨_,rfl⟩,hs3,hd3,?_⟩
   rw[tk,q0W,q1g (by simp[hb])]
   simpa using he3
 ·rintro acc σ' H' ⟨_,hs,hd,he⟩
  rw[q0T] at he
  exact q acc H' hs hd he
theorem z1M (a b c d:Option V) (σ:St):(((σ.set 0 a).set 1 b).set 0 c).set 1 d=(σ.set 0 c).set 1 d:=by
 rw[List.set_comm _ _ (show (1:Nat)≠0 by decide),List.set_set,List.set_set]
end L2
namespace L2
open PySem PySem.Spec PyProof.Rows
open Builtin.Int (intBits)
section
variable {X:Cx}
def CFw (i j:Int):Prop:=j≠0∧intBits i≤13000
theorem noPyW {i j:Int} (h:CFw i j):Builtin.divisionGoesByPylong i j=false:=by
 unfold Builtin.divisionGoesByPylong
 have h1:=intBits_le_iff.mp h.2
 simp only[Bool.and_eq_false_iff,decide_eq_false_iff_not]
 by_cases hi:i=0
 ·refine .inr ?_
  rw[if_pos (by simp[hi])]
  lia
 ·have hl:i.natAbs.log2<13000:=(Nat.log2_lt (by lia)).mpr h1
  by_cases hj:(if (j==0)=true then 0 else j.natAbs.log2/30+1)>300
  ·refine .inr ?_
   rw[if_neg (show ¬(i==0)=true by simpa using hi)]
   generalize (if (j==0)=true then 0 else j.natAbs.log2/30+1)=y at*
   lia
  ·exact .inl hj
theorem z3N:OpR X (binaryOp .FloorDiv) (rI CFw fun i j=> .int (i.fdiv j)):=opI fun _ _ _ _ _ _ _ hc q=>floordiv_int hc.1 q (.inl (noPyW hc))
end
end L2
namespace L2
open PySem PySem.Spec PyProof.Rows
theorem y0c {δ:Type}{J:It}{n:Nat}{Ok:Hp→Prop}{ps:List (V×V)} (ds:List δ) (hx:n=ds.length) (R:z6r J n Ok (fun i H x H'=>∃p u v,x= .ref p∧H p=none∧ps[i]? =some (u,v)∧H'=upd H p (.tup [u,v]))) {fr:List (Option Nat)}{g:TG}{tt:TT}{te:TE}{σ:St}{H1:Hp}{Q:VK}{D:Addr} (hD:H1 D=none) (pr:δ→V×V) (hpr:∀(i:Nat) c d,ps[i]? =some c→ds[i]? =some d→c=pr d) (tst:δ→Bool) (Rel:Hp→δ→V→Prop)
 (hrel:∀H H' d u,(∀b o,b≠D→H b=some o→H' b=some o)→(∃acc,H D=some (.lst acc))→Rel H d u→Rel H' d u)
 (hg:∀p u v σ H,H p=some (.tup [u,v])→∀S:St→Hp→Prop,S ((σ.set 0 (some u)).set 1 (some v)) H→g (.ref p) σ H S)
 (hok:∀H,Same H1 H→Ok H) (hn:n≤sizeLine)
 (ht:∀d∈ds,∀Hc,Same H1 Hc→∀S:Bool→Hp→Prop,(∀H',Same Hc H'→S (tst d) H')→tt (((z0H fr σ).set 0 (some (pr d).1)).set 1 (some (pr d).2)) Hc S)
 (hv:∀d∈ds,tst d=true→∀Hc,Same H1 Hc→(∃acc,Hc D=some (.lst acc))→∀S:VK,(∀u H',Same Hc H'→Rel H' d u→S u H')→te (((z0H fr σ).set 0 (some (pr d).1)).set 1 (some (pr d).2)) Hc S)
 (q:∀us H',Same H1 H'→H' D=some (.lst us)→Each (Rel H') (ds.filter tst) us→Q (.ref D) H'):
 z3E J g tt te Q D (z0H fr σ) (upd H1 D (.lst [])):=by
 subst hx
 refine z4I R (fun i acc σ' H'=>((∃o1 o2,σ'=((z0H fr σ).set 0 o1).set 1 o2)∨σ'=z0H fr σ)∧Same H1 H'∧H' D=some (.lst acc)∧Each (Rel H') ((ds.take i).filter tst) acc) ⟨.inr rfl,z0f hD _,z0d,.nil⟩ ?_ hn ?_ ?_
 ·rintro i acc σ' H' hi ⟨_,hs,_,he⟩
  refine⟨hok _ hs,?_⟩
  rw[←he.length]
  refine q0p (q1q _ _) ?_
  rw[q0o];lia
 ·rintro N i x acc σ' H' H'' hi ⟨hσ,hs,hd,he⟩ ⟨p,u,v,rfl,hp,hps,rfl⟩ n1 n2
  have hdi:ds[i]? =some ds[i]:=q0c hi
  have hm:ds[i]∈ds:=q0A hi
  generalize ds[i]=d at hdi hm
  have ec:=hpr i _ d hps hdi
  have gp:=z0f hp (.tup [u,v])
  have es:(σ'.set 0 (some u)).set 1 (some v)=((z0H fr σ).set 0 (some (pr d).1)).set 1 (some (pr d).2):=by
   rw[←ec]
   rcases hσ with⟨o1,o2,rfl⟩|rfl
   ·rw[z1M]
   ·rfl
  refine hg p u v _ _ z0d _ ?_
  rw[es]
  have tk:ds.take (i+1)=ds.take i++[d]:=by rw[q0R,hdi];rfl
  have hs2:=hs.trans gp
  have hd2:=gp _ _ hd
  have he2:Each (Rel (upd H' p (.tup [u,v]))) ((ds.take i).filter tst) acc:=he.imp fun a b h=>hrel _ _ _ _ (fun c o _ e=>gp _ _ e) ⟨_,hd⟩ h
  generalize upd H' p (.tup [u,v])=H2 at*
  refine ht d hm _ hs2 _ fun H3 g3=>?_
  have hs3:=hs2.trans g3
  have hd3:=g3 _ _ hd2
  have he3:Each (Rel H3) ((ds.take i).filter tst) acc:=he2.imp fun a b h=>hrel _ _ _ _ (fun c o _ e=>g3 _ _ e) ⟨_,hd2⟩ h
  cases hb:tst d with
  |true=>
   refine z4N ?_
   refine hv d hm hb _ hs3 ⟨_,hd3⟩ _ fun u' H4 g4 hr=>?_
   have hd4:=g4 _ _ hd3
   refine n1 _ _ _ hd4 ⟨.inl ⟨_,_,rfl⟩,fun c o e=>?_,z0d,?_⟩
   ·rw[z0l (z0h e hD)];exact g4 _ _ (hs3 _ _ e)
   ·have up:∀a b,Rel H4 a b→Rel (upd H4 D (.lst (acc++[u']))) a b:=fun a b h=>hrel _ _ _ _ (fun c o hc e=>by rw[z0l hc];exact e) ⟨_,hd4⟩ h
    rw[tk,q0W,q1f hb]
    exact ((he3.imp fun a b h=>up a b (hrel _ _ _ _ (fun c o _ e=>g4 _ _ e) ⟨_,hd3⟩ h)).snoc (up _ _ hr))
  |false=>
   refine z1I ?_
   refine n2 _ _ ⟨.inl ⟨_,_,rfl⟩,hs3,hd3,?_⟩
   rw[tk,q0W,q1g (by simp[hb])]
   simpa using he3
 ·rintro acc σ' H' ⟨_,hs,hd,he⟩
  rw[q0T] at he
  exact q acc H' hs hd he
end L2
namespace L2
open Fr Wl Pt Rk
namespace Ld
def Way (w:Nat) (d:List Int):Prop:=d.length=w+1∧v d w=0∧∃j,j<w∧v d j≠0
def Wy (w:Nat) (bs:List (List Int)) (d:List Int):Prop:=Way w d∧∀b∈bs,0≤hg w (v b) (v d)
def PWy (w:Nat) (bs:List (List Int)):Prop:=∃d,Wy w bs d
theorem PWy.less {w:Nat}{bs cs:List (List Int)} (h:PWy w (bs++cs)):PWy w bs:=let ⟨d,a,b⟩:=h;⟨d,a,fun c hc=>b c (q0B _ hc)⟩
theorem y5k (bs:List (List Int)):¬PWy 0 bs:=by
 rintro⟨d,⟨_,_,j,hj,_⟩,_⟩
 lia
theorem y1X {w:Nat}{a s:Nat→Int} (h:∀j,j≤w→s j=0):hg w a s=0:=by
 rw[z0V (b:=a) (t:=fun j=>0*s j) (fun _ _=>rfl) fun j hj=>by rw[h j hj,q0M],z5n];lia
theorem y5R {w:Nat}{d:List Int}{a:Nat→Int} (hl:d.length=w+1) (h0:v d w=0) (h:hg w a (v d)≠0):Way w d:=by
 refine⟨hl,h0,q0l fun hc=>h (y1X fun j hj=>?_)⟩
 by_cases c:j<w
 ·exact q0l fun z=>hc ⟨j,c,z⟩
 ·rw[show j=w by lia];exact h0
theorem y0g {w:Nat}{bs:List (List Int)}{b d:List Int} (hd:Wy w bs d) (hz:∀c∈bs,hg w (v c) (v d)=0) (hb:hg w (v b) (v d)<0):Wy w (bs++[b]) (z0s (-1) d):=by
 have e:∀a:Nat→Int,hg w a (v (z0s (-1) d))= -1*hg w a (v d):=fun a=>by
  rw[←z5n];exact z0V (fun _ _=>rfl) fun j _=>z1A j
 obtain⟨⟨h1,h2,j,hj,hn⟩,_⟩:=hd
 refine⟨⟨by rw[z2F,h1],by rw[z1A,h2];rfl,j,hj,by rw[z1A];lia⟩,fun c hc=>?_⟩
 rw[e]
 rcases q0H.mp hc with hc|hc
 ·rw[hz c hc];decide
 ·rw[q0m.mp hc];lia
theorem z9k {w:Nat}{b d:List Int} (hl:b.length=w+1) (hd:Way w d) (hb:hg w (v b) (v d)<0):Rk.fp b<w:=by
 refine q0l fun hc=>?_
 have z0:∀j,j<w→v b j=0:=fun j hj=>z1g (by lia)
 have:hg w (v b) (v d)=0:=by
  unfold hg
  rw[sumTo_congr w (g:=fun _=>0) fun j hj=>by rw[z0 j hj,Int.zero_mul],hd.2.1,q0M]
  have:∀n,sumTo n (fun _=>0)=0:=fun n=>by
   induction n with
   |zero=>rfl
   |succ n ih=>rw[sumTo,ih];rfl
  rw[this];rfl
 lia
theorem y0i {w:Nat}{bs:List (List Int)}{b d0:List Int} (hbl:b.length=w+2) (hl:∀u∈bs,u.length=w+2) (h0:Wy (w+1) bs d0) (hb:hg (w+1) (v b) (v d0)<0) (hsome:∃c∈bs,hg (w+1) (v c) (v d0)≠0)
 (hn:¬PWy w (bs.map (drR (z0s (ldL b) b)))):¬PWy (w+1) (bs++[b]):=by
 rintro⟨d1,hd1,h2⟩
 have hfp:=z9k hbl h0.1 hb
 have nz:∃n∈b,n≠0:=z6T (by lia)
 have ft:=z3y nz (z0U b)
 have tl:(z0s (ldL b) b).length =w+2:=by rw[z2F,hbl]
 have tpos:0<v (z0s (ldL b) b) (Rk.fp (z0s (ldL b) b)):=by rw[z1A,ft];exact z2O nz
 have tnz:∃n∈z0s (ldL b) b,n≠0:=z1Y (j:=Rk.fp (z0s (ldL b) b)) (by lia)
 obtain⟨d,hd,hw,ho⟩:∃d:List Int,Way (w+1) d∧(∀c∈bs,0≤hg (w+1) (v c) (v d))∧hg (w+1) (v b) (v d)=0:=by
  have hb1:=h2 b (by simp)
  by_cases hz:hg (w+1) (v b) (v d1)=0
  ·exact⟨d1,hd1,fun c hc=>h2 c (q0B _ hc),hz⟩
  ·generalize e1:hg (w+1) (v b) (v d1)=x1 at*
   generalize e0:hg (w+1) (v b) (v d0)=x0 at*
   have ev:∀a:Nat→Int,hg (w+1) a (v (mkL (w+1) fun j=>x1*v d0 j+(-x0)*v d1 j))=x1*hg (w+1) a (v d0)+(-x0)*hg (w+1) a (v d1):=fun a=>by rw[y1Y,z7a]
   obtain⟨c,hc,hcn⟩:=hsome
   have x1p:0<x1:=by lia
   refine⟨mkL (w+1) fun j=>x1*v d0 j+(-x0)*v d1 j,y5R (a:=v c) (z7X _ _) (by rw[y3u (q0j _),h0.1.2.1,hd1.2.1];lia) ?_,fun c' hc'=>?_,by rw[ev,e0,e1];grind⟩
   ·rw[ev]
    have a1:=h0.2 c hc
    have a2:=q1y x1p (show 0<hg (w+1) (v c) (v d0) by lia)
    have a3:=q0U (show 0≤ -x0 by lia) (h2 c (q0B _ hc))
    lia
   ·rw[ev]
    have a2:=q0U (q1h x1p) (h0.2 c' hc')
    have a3:=q0U (show 0≤ -x0 by lia) (h2 c' (q0B _ hc'))
    lia
 have hot:hg (w+1) (v (z0s (ldL b) b)) (v d)=0:=by rw[z2o,ho,q0M]
 have hpw:Rk.fp (z0s (ldL b) b)≤w:=by lia
 have esk:skp (Rk.fp (z0s (ldL b) b)) w=w+1:=by unfold skp;rw[if_neg (by lia)]
 refine hn ⟨d.eraseIdx (Rk.fp (z0s (ldL b) b)),⟨by rw[List.length_eraseIdx,if_pos (by have:=hd.1;lia),hd.1];rfl,by rw[z2u,esk];exact hd.2.1,q0l fun hc=>?_⟩,fun c hc=>?_⟩
 · -- all other numbers 0:so that of the wall's own way too
   have z:∀j,j<w→v d (skp (Rk.fp (z0s (ldL b) b)) j)=0:=fun j hj=>by
    refine q0l fun zz=>hc ⟨j,hj,?_⟩
    rw[z2u];exact zz
   have e:=z6h (w:=w) (a:=v (z0s (ldL b) b)) (s:=v d) hpw
   rw[hot,y1X (s:=fun j=>v d (skp (Rk.fp (z0s (ldL b) b)) j)) fun j hj=>by
    by_cases cj:j<w
    ·exact z j cj
    ·rw[show j=w by lia,esk];exact hd.2.1] at e
   have hp0:v d (Rk.fp (z0s (ldL b) b))=0:=by
    have:v (z0s (ldL b) b) (Rk.fp (z0s (ldL b) b))*v d (Rk.fp (z0s (ldL b) b))=0:=by lia
    exact (q1b.mp this).resolve_left (by lia)
   obtain⟨j,hj,hjn⟩:=hd.2.2
   by_cases c1:j=Rk.fp (z0s (ldL b) b)
   ·exact hjn (by rw[c1];exact hp0)
   ·by_cases c2:j<Rk.fp (z0s (ldL b) b)
    ·have:=z j (by lia)
     unfold skp at this
     rw[if_pos c2] at this
     exact hjn this
    ·have:=z (j - 1) (by lia)
     unfold skp at this
     rw[if_neg (by lia),show j - 1+1=j by lia] at this
     exact hjn this
 ·obtain⟨u,hu,rfl⟩:=q0g.mp hc
  have h1:=z6i (s:=v d) hpw tl (hl u hu) tnz
  rw[hot,q0M,q1k] at h1
  rw[z0V (w:=w) (a:=v (drR (z0s (ldL b) b) u)) (b:=v (drR (z0s (ldL b) b) u)) (s:=v (d.eraseIdx (Rk.fp (z0s (ldL b) b)))) (t:=fun j=>v d (skp (Rk.fp (z0s (ldL b) b)) j)) (fun _ _=>rfl) (fun j _=>z2u _ _ _),h1]
  exact q0U (q1h (z5V tpos)) (hw u hu)
theorem y0h {w:Nat}{bs:List (List Int)}{b f:List Int} (hbl:b.length=w+2) (hl:∀u∈bs,u.length=w+2) (hfp:Rk.fp b≤w) (hf:Wy w (bs.map (drR (z0s (ldL b) b))) f):Wy (w+1) (bs++[b]) (z4x (upL (w+1) (z0s (ldL b) b) f)):=by
 have nz:∃n∈b,n≠0:=z6T (by lia)
 have ft:=z3y nz (z0U b)
 have tl:(z0s (ldL b) b).length =w+2:=by rw[z2F,hbl]
 have tpos:0<v (z0s (ldL b) b) (Rk.fp (z0s (ldL b) b)):=by rw[z1A,ft];exact z2O nz
 have tnz:∃n∈z0s (ldL b) b,n≠0:=z1Y (j:=Rk.fp (z0s (ldL b) b)) (by lia)
 have hpw:Rk.fp (z0s (ldL b) b)≤w:=by lia
 obtain⟨⟨f1,f2,j,hj,hjn⟩,f4⟩:=hf
 have ul:=y0p (t:=z0s (ldL b) b) f1 hpw
 have uo:=y4B (t:=z0s (ldL b) b) f1 hpw
 have esk:skp (Rk.fp (z0s (ldL b) b)) w=w+1:=by unfold skp;rw[if_neg (by lia)]
 have unz:v (upL (w+1) (z0s (ldL b) b) f) (skp (Rk.fp (z0s (ldL b) b)) j)≠0:=by
  rw[z3A f1 hpw];exact q0X (by lia) hjn
 have gp:0<(z1J (upL (w+1) (z0s (ldL b) b) f):Int):=by
  have:=z1W (z1Y unz);lia
 have lv:=fun i=>y1I (s:=upL (w+1) (z0s (ldL b) b) f) i
 have hjs:skp (Rk.fp (z0s (ldL b) b)) j<w+1:=by unfold skp;split<;>lia
 refine⟨⟨by rw[z8U,ul],?_,skp (Rk.fp (z0s (ldL b) b)) j,hjs,fun z=>unz ?_⟩,fun c hc=>?_⟩
 ·have e:=lv (w+1)
  have e2:=z3A (j:=w) (t:=z0s (ldL b) b) f1 hpw
  rw[esk,f2,q0M] at e2
  rw[e2] at e
  exact (q1b.mp e).resolve_left (by lia)
 ·rw[←lv,z,q0M]
 ·have hlo:=z8b (w:=w+1) (s:=upL (w+1) (z0s (ldL b) b) f) (a:=v c)
  have fin:0≤hg (w+1) (v c) (v (upL (w+1) (z0s (ldL b) b) f)):=by
   rcases q0H.mp hc with hc|hc
   ·have h1:=z6i (s:=v (upL (w+1) (z0s (ldL b) b) f)) hpw tl (hl c hc) tnz
    rw[uo,q0M,q1k] at h1
    have h2:hg w (v (drR (z0s (ldL b) b) c)) (fun j=>v (upL (w+1) (z0s (ldL b) b) f) (skp (Rk.fp (z0s (ldL b) b)) j))=v (z0s (ldL b) b) (Rk.fp (z0s (ldL b) b))*hg w (v (drR (z0s (ldL b) b) c)) (v f):=by
     rw[←z5n]
     exact z0V (fun _ _=>rfl) fun j _=>z3A f1 hpw
    have h3:=q0U (q1h tpos) (f4 _ (q0G hc))
    rw[←h2,h1] at h3
    refine q0l fun z=>?_
    have:=q1D (z5V (u:=c) tpos) (show hg (w+1) (v c) (v (upL (w+1) (z0s (ldL b) b) f))<0 by lia)
    lia
   ·rw[q0m.mp hc]
    rw[z2o] at uo
    have:=(q1b.mp uo).resolve_left (by rcases z0U b with h|h<;>rw[h]<;>decide)
    lia
  refine q0l fun z=>?_
  have:=q1D gp (show hg (w+1) (v c) (v (z4x (upL (w+1) (z0s (ldL b) b) f)))<0 by lia)
  lia
end Ld
end L2
set_option maxHeartbeats 4000000
namespace L2
open PySem PySem.Spec PyProof.Rows
def top (i:Nat):Stmt:=PySem.Challenge.pw_wallspace_k82_whole_what_a_hall_tells.main.body.getD i (.Pass ⟨0,0,0,0⟩)
structure Txt (mg:Str→Option Value):Prop where
 abs:mg "abs"=none
 len:mg "len"=none
 isinstance:mg "isinstance"=none
 int:mg "int"=none
 bool:mg "bool"=none
 tuple:mg "tuple"=none
 list:mg "list"=none
 any:mg "any"=none
 all:mg "all"=none
 min:mg "min"=none
 max:mg "max"=none
 range:mg "range"=none
 enumerate:mg "enumerate"=none
 zip:mg "zip"=none
 sum:mg "sum"=none
 reversed:mg "reversed"=none
 sorted:mg "sorted"=none
section
open Fr
open Builtin.Int (intBits)
variable {P:Program}{w:World}{K:PySem.W.Frag}{mg:Str→Option Value}{base:Heap}{f:Addr}{fd:FuncData}
abbrev z4k:Stmt:=top 7
theorem sc_divisor:z0q ["one","other","rest"] ["one","other"] (z0i z4k):=⟨rfl,rfl,rfl,by decide+kernel,rfl,by decide+kernel,by decide+kernel⟩
def z1L:Sp:=fun vs H Q _=>∃a b:Int,vs=[.int a,.int b]∧Q (.int (Int.gcd a b:Int)) H
theorem z9J (T:Txt mg) (F:Fun K "divisor" "divisor" z4k f fd):FnOk P w K mg base CX0 1 f fd ["one","other"] z1L:=by
 refine F.ok sc_divisor (fun vs H Q E h=>?_) (fun cdv A outer s H vs Q E hr h=>?_)
 ·obtain⟨a,b,rfl,_⟩:=h;rfl
 obtain⟨a,b,rfl,q⟩:=h
 refine⟨_,(z0b (z8I PassesOwn.never (z0A z4Q (pv 1) z0g (z0F _)) (z0b (z0p (i:=2) sc_divisor.nd rfl (Or.inl rfl) (z0v y4Y (pv 0) (pv 1)))
  (z0b (z0p (i:=0) sc_divisor.nd rfl (Or.inl rfl) (pv 1))
  (z0e (z0p (i:=1) sc_divisor.nd rfl (Or.inl rfl) (pv 2))))))
  (z0e (z0o (z0x z3R rfl T.abs boot_abs (z0a (pv 0) z0c))))),?_⟩
 refine z8m (fun σ H'=>H'=H∧∃x y r,σ=[some (.int x),some (.int y),r]∧Int.gcd x y=Int.gcd a b) (fun σ _=>match σ with|[_,some (.int y),_]=>y.natAbs|_=>0) ⟨rfl,a,b,none,rfl,rfl⟩ ?_ ?_
 ·rintro σ H' ⟨rfl,x,y,r,rfl,hg⟩
  refine⟨_,rfl,rfl,_,rfl,?_⟩
  by_cases hy:y=0
  ·subst hy
   refine z1I ?_
   refine⟨_,rfl,_,rfl,?_⟩
   rw[y5L hg rfl]
   exact q
  ·rw[show (!decide (V.int y=V.int 0))=true from by simp[hy]]
   refine z4N ?_
   refine⟨_,rfl,_,rfl,_,_,rfl,rfl,hy,?_⟩
   refine⟨_,rfl,?_⟩
   refine⟨_,rfl,?_⟩
   exact⟨⟨rfl,y,x.fmod y,_,rfl,turn hg⟩,less hy⟩
 ·rintro σ H' Q1 Q2 hQ ⟨v,e,e2,k,ek,qk⟩
  exact⟨v,e,e2,k,ek,hQ _ _ qk⟩
end
section
open Fr
open Builtin.Int (intBits)
variable {P:Program}{w:World}{K:PySem.W.Frag}{mg:Str→Option Value}{base:Heap}{f:Addr}{fd:FuncData}
abbrev z2T:Stmt:=top 53
theorem z6G:z0q ["_law_script","_law_k"] ["_law_script","_law_k"] (z0i z2T):=⟨rfl,rfl,rfl,by decide+kernel,rfl,by decide+kernel,by decide+kernel⟩
def y0H (K:PySem.W.Frag):Sp:=fun vs H Q _=>∃(a:Addr) (ns:List Int) (k:Int),vs=[.ref a,.int k]∧SqL K H a (ns.map V.int)∧0≤k∧Q (.int (ns.getD k.toNat 0)) H
theorem z6P (T:Txt mg) (F:Fun K "_law_cell_at" "_law_cell_at" z2T f fd):FnOk P w K mg base CX0 1 f fd ["_law_script","_law_k"] (y0H K):=by
 refine F.ok z6G (fun vs H Q E h=>?_) (fun cdv A outer s H vs Q E hr h=>?_)
 ·obtain⟨_,_,_,rfl,_⟩:=h;rfl
 obtain⟨a,ns,k,rfl,hS,h0,q⟩:=h
 refine⟨_,(z0b (z0J (z0A z4R (pv 1) (z0x (z0M (K:=K) rfl) rfl T.len PySem.boot_len (z0a (pv 0) z0c)) (z0F _)) (z0e (z0o (z0G (z0B (K:=K) rfl) (pv 0) (pv 1) (fun _ _=>rfl)))) z0y)
  (z0e (z0o z0g))),?_⟩
 have hl:(ns.map V.int).length =ns.length:=q0a _
 refine⟨_,rfl,_,rfl,a,_,rfl,.inl hS,_,_,rfl,rfl,_,rfl,?_⟩
 refine z3i (fun c=>?_) (fun c=>?_)
 ·have c':k<(((ns.map V.int).length :Nat):Int):=of_decide_eq_true c
  rw[hl] at c'
  have hk:k.toNat<ns.length:=by lia
  have hv:atI (ns.map V.int) k=some (.int (ns.getD k.toNat 0)):=by
   have ek:k=((k.toNat:Nat):Int):=by lia
   rw[ek]
   refine z2E ?_
   rw[q0h,q0J,q0b,q0c hk]
   rfl
  exact⟨_,rfl,_,rfl,a,_,_,_,rfl,rfl,hS,hv,q⟩
 ·have c':¬k<(((ns.map V.int).length :Nat):Int):=fun z=>c (decide_eq_true z)
  rw[hl] at c'
  have e:ns.getD k.toNat 0=0:=by
   rw[q0b,q1C (by lia)]
   rfl
  rw[e] at q
  exact q
abbrev z4d:Stmt:=top 54
theorem z9r:z0q ["_law_found"] ["_law_found"] (z0i z4d):=⟨rfl,rfl,rfl,by decide+kernel,rfl,by decide+kernel,by decide+kernel⟩
def z3V:Sp:=fun vs H Q _=>∃i:Int,vs=[.int i]∧Q (.bl true) H
theorem z9C (T:Txt mg) (F:Fun K "_law_whole" "_law_whole" z4d f fd):FnOk P w K mg base CX0 1 f fd ["_law_found"] z3V:=by
 refine F.ok z9r (fun vs H Q E h=>?_) (fun cdv A outer s H vs Q E hr h=>?_)
 ·obtain⟨_,rfl,_⟩:=h;rfl
 obtain⟨i,rfl,q⟩:=h
 refine⟨_,(z0e (z0o (y1l (z0x z1b rfl T.isinstance boot_isinstance (z0a (pv 0) (z0a (z2m (v:= .ty "int") rfl T.int boot_int rfl) z0c))) (z8L (y4d (z0x z1b rfl T.isinstance boot_isinstance (z0a (pv 0) (z0a (z2m (v:= .ty "bool") rfl T.bool boot_bool rfl) z0c)))))))),?_⟩
 refine⟨_,rfl,_,_,_,_,rfl,.int _,rfl,_,rfl,?_⟩
 refine z4N ?_
 exact⟨_,rfl,_,_,_,_,rfl,.int _,rfl,_,rfl,q⟩
end
section
open Fr
open Builtin.Int (intBits)
variable {P:Program}{w:World}{K:PySem.W.Frag}{mg:Str→Option Value}{base:Heap}{f:Addr}{fd:FuncData}
abbrev z2S:Stmt:=top 57
theorem sc_l_divisor:z0q ["_law_one","_law_other"] ["_law_one","_law_other"] (z0i z2S):=⟨rfl,rfl,rfl,by decide+kernel,rfl,by decide+kernel,by decide+kernel⟩
theorem turnE {a0 b0 a b:Int} (h:Int.gcd a b=Int.gcd a0 b0):Int.gcd b (a%b)=Int.gcd a0 b0:=by
 rw[Int.emod_def,Int.gcd_sub_mul_left_right,Int.gcd_comm b a]
 exact h
theorem y5x (a b:Int):Int.gcd (if a<0 then -a else a) (if b<0 then -b else b)=Int.gcd a b:=by
 split<;>split<;>simp[Int.gcd_neg,Int.neg_gcd]
theorem z6O (T:Txt mg) (F:Fun K "_law_divisor" "_law_divisor" z2S f fd):FnOk P w K mg base CX0 1 f fd ["_law_one","_law_other"] z1L:=by
 refine F.ok sc_l_divisor (fun vs H Q E h=>?_) (fun cdv A outer s H vs Q E hr h=>?_)
 ·obtain⟨_,_,rfl,_⟩:=h;rfl
 obtain⟨a,b,rfl,q⟩:=h
 refine⟨_,(z0b (z0p (i:=0) sc_l_divisor.nd rfl (Or.inl rfl) (z0x z3R rfl T.abs boot_abs (z0a (pv 0) z0c)))
  (z0b (z0p (i:=1) sc_l_divisor.nd rfl (Or.inl rfl) (z0x z3R rfl T.abs boot_abs (z0a (pv 1) z0c)))
  (z0b (z8I PassesOwn.never (z0A y1o (pv 1) z0g (z0F _)) (z0e (y6k (i:=0) (j:=1) rfl sc_l_divisor.nd rfl rfl (by decide) rfl rfl (z0a (pv 1) (z0a (z0v z0Z (pv 0) (pv 1)) z0c)) (by rfl))))
  (z0e (z0o (pv 0)))))),?_⟩
 refine⟨_,rfl,_,rfl,?_⟩
 refine⟨_,rfl,_,rfl,?_⟩
 refine z8m (fun σ H'=>H'=H∧∃x y,σ=[some (.int x),some (.int y)]∧0≤x∧0≤y∧Int.gcd x y=Int.gcd a b) (fun σ _=>match σ with|[_,some (.int y)]=>y.natAbs|_=>0)
  ⟨rfl,_,_,rfl,by split<;>lia,by split<;>lia,y5x a b⟩ ?_ ?_
 ·rintro σ H' ⟨rfl,x,y,rfl,hx,hy,hg⟩
  refine⟨_,rfl,_,_,rfl,rfl,_,rfl,?_⟩
  refine z3i (fun c=>?_) (fun c=>?_)
  ·have c':0<y:=of_decide_eq_true c
   refine⟨_,rfl,_,rfl,_,rfl,_,_,rfl,rfl,c',_,_,rfl,?_⟩
   have m0:=Int.emod_nonneg x (Int.ne_of_gt c')
   have m1:=Int.emod_lt_of_pos x c'
   refine⟨⟨rfl,y,x%y,rfl,hy,m0,turnE hg⟩,?_⟩
   show (x%y).natAbs <y.natAbs
   lia
  ·have c':¬0<y:=fun z=>c (decide_eq_true z)
   have y0:y=0:=by lia
   subst y0
   refine⟨_,rfl,?_⟩
   have e:x=(Int.gcd a b:Int):=by rw[←hg,Int.gcd_zero];lia
   rw[←e] at q
   exact q
 ·rintro σ H' Q1 Q2 hQ ⟨v,e,i,j,e2,e3,k,ek,qk⟩
  exact⟨v,e,i,j,e2,e3,k,ek,hQ _ _ qk⟩
end
section
open Fr
open Builtin.Int (intBits)
variable {P:Program}{w:World}{K:PySem.W.Frag}{mg:Str→Option Value}{base:Heap}{f:Addr}{fd:FuncData}
abbrev z4h:Stmt:=top 55
theorem sc_l_block:z0q ["_law_script","_law_k","_law_cell","_law_j"] ["_law_script","_law_k"] (z0i z4h):=⟨rfl,rfl,rfl,by decide+kernel,rfl,by decide+kernel,by decide+kernel⟩
def y0I (K:PySem.W.Frag):Sp:=fun vs H Q _=>∃(a:Addr) (ns:List Int) (k:Int),vs=[.ref a,.int k]∧SqL K H a (ns.map V.int)∧0≤k∧∀r,Q (.int r) H
theorem y2x {ns:List Int}{k:Int} (h0:0≤k) (h:k<ns.length):atI (ns.map V.int) k=some (.int (ns.getD k.toNat 0)):=by
 have hk:k.toNat<ns.length:=by lia
 have ek:k=((k.toNat:Nat):Int):=by lia
 rw[ek]
 refine z2E ?_
 rw[q0h,q0J,q0b,q0c hk]
 rfl
theorem z9G (T:Txt mg) (F:Fun K "_law_block" "_law_block" z4h f fd):FnOk P w K mg base CX0 1 f fd ["_law_script","_law_k"] (y0I K):=by
 refine F.ok sc_l_block (fun vs H Q E h=>?_) (fun cdv A outer s H vs Q E hr h=>?_)
 ·obtain⟨_,_,_,rfl,_⟩:=h;rfl
 obtain⟨a,ns,k,rfl,hS,h0,q⟩:=h
 refine⟨_,(z0b (z0p (i:=2) sc_l_block.nd rfl (Or.inl rfl) z0g)
  (z0b (z0J (z0A z4R (z0v z1s z0g (z0v z0Z (z0v z1v (pv 1) z0g) z0g)) (z0x (z0M (K:=K) rfl) rfl T.len PySem.boot_len (z0a (pv 0) z0c)) (z0F _)) (z0e (z0p (i:=2) sc_l_block.nd rfl (Or.inl rfl) (z0v z1v (z0G (z0B (K:=K) rfl) (pv 0) (z0v z1s z0g (z0v z0Z (z0v z1v (pv 1) z0g) z0g)) (fun _ _=>rfl)) (z7O (v:=10000000000000000000000000000000000000000000000000000000000000000) (by decide+kernel) z0g z0g)))) z0y)
  (z0b (z0T PassesOwn.never rfl (z1y rfl T.range (z0a (z0v z0Z (pv 1) z0g) z0c)) (z0k (i:=3) sc_l_block.nd rfl (Or.inl rfl)) (z0e (z0p (i:=2) sc_l_block.nd rfl (Or.inl rfl) (z0v z1v (pv 2) z0g))))
  (z0e (z0o (pv 2)))))),?_⟩
 have hl:(ns.map V.int).length =ns.length:=q0a _
 have hdv:0≤k/8%62:=by lia
 refine⟨_,rfl,_,_,rfl,rfl,cf,_,_,rfl,rfl,cm,_,_,rfl,rfl,_,rfl,a,_,rfl,.inl hS,_,_,rfl,rfl,_,rfl,?_⟩
 refine z3i (fun c=> ?aa) (fun c=> ?bb)
 case' aa=>
  have c':1+k/8%62<(((ns.map V.int).length :Nat):Int):=of_decide_eq_true c
  rw[hl] at c'
  refine⟨_,rfl,_,rfl,_,_,rfl,rfl,cf,_,_,rfl,rfl,cm,_,_,rfl,rfl,a,_,_,_,rfl,rfl,hS,y2x (by lia) c',_,_,rfl,rfl,cf,?_⟩
 all_goals
  refine⟨_,rfl,_,_,rfl,rfl,cm,k%8,rfl,by lia,by lia,z0E (z1m 0 (k%8).toNat) (fun i σ H'=>H'=H∧∃c s3,σ=[some (.ref a),some (.int k),some (.int c),s3]) ⟨rfl,_,_,rfl⟩ (fun _ _ _ _ _=>trivial) ?_ ?_⟩
  ·rintro i x σ H1 H2 hi ⟨rfl,c,s3,rfl⟩ ⟨rfl,rfl⟩
   exact⟨_,rfl,_,_,rfl,rfl,cf,rfl,_,_,rfl⟩
  ·rintro σ H1 ⟨rfl,c,s3,rfl⟩
   exact⟨_,rfl,q c⟩
abbrev z4f:Stmt:=top 56
theorem sc_l_mixed:z0q ["_law_script","_law_k","_law_cell","_law_number"] ["_law_script","_law_k"] (z0i z4f):=⟨rfl,rfl,rfl,by decide+kernel,rfl,by decide+kernel,by decide+kernel⟩
def z7y (K:PySem.W.Frag):Sp:=fun vs H Q _=>∃(a:Addr) (ns:List Int) (k:Int),vs=[.ref a,.int k]∧SqL K H a (ns.map V.int)∧ns.length≤63∧0≤k∧k≤1000000∧∀r:Int,0≤r→r<2147483587→Q (.int r) H
theorem z2r {i:Int} (h1: -(2^64)<i) (h2:i<2^64):intBits i≤64:=intBits_le_64 h1 h2
theorem z9E (T:Txt mg) (F:Fun K "_law_mixed" "_law_mixed" z4f f fd) (c_l_block:Cal P w K mg base 1 "_law_block" ["_law_script","_law_k"] (y0I K)):FnOk P w K mg base CX0 2 f fd ["_law_script","_law_k"] (z7y K):=by
 refine F.ok sc_l_mixed (fun vs H Q E h=>?_) (fun cdv A outer s H vs Q E hr h=>?_)
 ·obtain⟨_,_,_,rfl,_⟩:=h;rfl
 obtain⟨a,ns,k,rfl,hS,h63,h0,h1,q⟩:=h
 refine⟨_,(z0b (z0p (i:=2) sc_l_mixed.nd rfl (Or.inl rfl) z0g)
  (z0b (z0J (z0A y1o (z0x (z0M (K:=K) rfl) rfl T.len PySem.boot_len (z0a (pv 0) z0c)) z0g (z0F _)) (z0e (z0p (i:=2) sc_l_mixed.nd rfl (Or.inl rfl) (z0G (z0B (K:=K) rfl) (pv 0) z0g (fun _ _=>rfl)))) z0y)
  (z0b (z0J (PW.pt (y6j (z0A z7S (z0v z0Z (z0v z1v (pv 2) (z7O (v:=1000000) (by decide+kernel) z0g z0g)) z0g) z0g (z0F _)) (y4P (z0A z4Q (z0m c_l_block hr rfl (z0a (pv 0) (z0a (pv 1) z0c))) z0g (z0F _))))) (z0e (z0o (z0v z0Z (z0m c_l_block hr rfl (z0a (pv 0) (z0a (pv 1) z0c))) z0g))) z0y)
  (z0b (z0J (z0A y1o (z0x (z0M (K:=K) rfl) rfl T.len PySem.boot_len (z0a (pv 0) z0c)) z0g (z0F _)) (z0e (z0p (i:=2) sc_l_mixed.nd rfl (Or.inl rfl) (z0G (z0B (K:=K) rfl) (pv 0) (z0v z0Z (pv 1) (z0x (y2u rfl) rfl T.min boot_min (z0a z0g (z0a (z0x (z0M (K:=K) rfl) rfl T.len PySem.boot_len (z0a (pv 0) z0c)) z0c)))) (fun _ _=>rfl)))) z0y)
  (z0b (z0p (i:=3) sc_l_mixed.nd rfl (Or.inl rfl) (z0v z1s (z0v z0Z (pv 2) (z7O (v:=1000000000000000000) (by decide+kernel) z0g z0g)) (z0v z0I z0g (z0v z1s (pv 1) z0g))))
  (z0b (z0p (i:=3) sc_l_mixed.nd rfl (Or.inl rfl) (z0v z1s (z0v z0Z (z0v z0I (pv 3) (pv 3)) z0g) (z0v z0I z0g (pv 1))))
  (z0e (z0o (z0v z0Z (z0v z0I (pv 3) (pv 3)) z0g))))))))),?_⟩
 have hl:(ns.map V.int).length =ns.length:=q0a _
 refine⟨_,rfl,a,_,rfl,.inl hS,_,_,rfl,rfl,_,rfl,?_⟩
 refine z3i (fun c=> ?aa) (fun c=> ?bb)
 case' aa=>
  have c':0<(((ns.map V.int).length :Nat):Int):=of_decide_eq_true c
  rw[hl] at c'
  refine⟨_,rfl,a,_,_,_,rfl,rfl,hS,y2x (by decide) c',?_⟩
 all_goals
  refine⟨_,rfl,_,_,rfl,rfl,cf,_,_,rfl,rfl,cm,rfl,_,rfl,?_⟩
  refine z3i (fun d=>?_) (fun d=>?_)
  case' _=>
   refine⟨_,rfl,_,rfl,a,ns,k,rfl,hS,h0,fun r=>⟨rfl,_,rfl,?_⟩⟩
   refine z3i (fun e=>?_) (fun e=>?_)
   case' _=>exact⟨_,rfl,_,rfl,a,ns,k,rfl,hS,h0,fun r=>⟨_,_,rfl,rfl,cm,q _ (by lia) (by lia)⟩⟩
  rotate_left
  case' _=>refine z1I ?_
 all_goals
  refine⟨_,rfl,a,_,rfl,.inl hS,_,_,rfl,rfl,_,rfl,?_⟩
  refine z3i (fun c=>?_) (fun c=>?_)
  case' _=>
   have c':0<(((ns.map V.int).length :Nat):Int):=of_decide_eq_true c
   rw[hl] at c'
   have em:(if (((ns.map V.int).length :Nat):Int)<63 then (((ns.map V.int).length :Nat):Int) else 63)=ns.length:=by rw[hl];split<;>lia
   refine⟨_,rfl,_,rfl,_,rfl,a,_,rfl,.inl hS,_,_,rfl,?_⟩
   rw[em]
   refine⟨_,_,rfl,rfl,c',a,_,_,_,rfl,rfl,hS,y2x (Int.emod_nonneg _ (by lia)) (Int.emod_lt_of_pos _ c'),?_⟩
 all_goals
  refine⟨_,rfl,_,_,rfl,rfl,cm,_,rfl,_,_,rfl,rfl,_,_,rfl,rfl,z1u (m:=64) (n:=64) (z2r (by lia) (by lia)) (z2r (by lia) (by lia)),_,_,rfl,rfl,?_⟩
  have z1:∀x:Int,intBits (x%1000000000000000000+48271*(k+1))≤64:=fun x=>z2r (by lia) (by lia)
  refine⟨_,rfl,_,rfl,_,_,rfl,rfl,z1u (m:=64) (n:=64) (z1 _) (z1 _),_,_,rfl,rfl,cm,_,rfl,_,_,rfl,rfl,z1u (m:=64) (n:=64) (z2r (by lia) (by lia)) (z2r (by lia) (by lia)),_,_,rfl,rfl,?_⟩
  have z2:∀x:Int,intBits (x%2147483629+69621*k)≤64:=fun x=>z2r (by lia) (by lia)
  exact⟨_,rfl,_,rfl,_,_,rfl,rfl,z1u (m:=64) (n:=64) (z2 _) (z2 _),_,_,rfl,rfl,cm,q _ (by lia) (by lia)⟩
end
section
open Fr Wl
open Builtin.Int (intBits)
theorem z0w {S1 S2:TS}{D:y4w}{σ:St}{H:Hp} (I:St→Hp→Prop) (h1:∀N:St→Hp→Prop,(∀σ' H',I σ' H'→N σ' H')→S1 {D with nx:=N} σ H) (h2:∀σ' H',I σ' H'→S2 D σ' H'):tSeq S1 S2 D σ H:=h1 _ h2
def y5P (n:Nat):List V:=(List.range n).map fun i=>V.int ((0:Int)+(i:Nat))
theorem y0Y {n i:Nat} (h:i<n):(y5P n)[i]? =some (V.int (0+(i:Nat))):=by
 unfold y5P
 rw[q0h,List.getElem?_range h];rfl
theorem z3L (n:Nat):(y5P n).length =n:=by unfold y5P;rw[List.length_map,List.length_range]
theorem z7M (n:Nat):z6r (Itr 0 n) (y5P n).length (fun _=>True) (fun i H x H'=>H'=H∧(y5P n)[i]? =some x):=by
 have r:=z1m 0 n
 rw[z3L]
 exact⟨r.go,r.stop,fun i H x H' h hi y=>by
  obtain⟨e1,e2⟩:=r.yld i H x H' h hi y
  exact⟨e1,by rw[y0Y hi,e2]⟩⟩
end
end L2
namespace L2
open PySem PySem.Spec PyProof.Rows
section
open Fr Wl
open Builtin.Int (intBits)
variable {P:Program}{w:World}{K:PySem.W.Frag}{mg:Str→Option Value}{base:Heap}{f:Addr}{fd:FuncData}
theorem z7C {K:PySem.W.Frag}{b:Bool}{H:Hp}{a:Addr}{xs:List V}{v:V}{Q:VK} (h:SqB b K H a (xs++[v])) (q:∀p H',Same H H'→SqA K H' p xs→Q (.ref p) H'):rSlA K (.ref a) none (some (-1)) H Q:=by
 cases b with
 |true=>
  refine .inl ⟨a,_,rfl,h,fun p hp=>?_⟩
  rw[z1F]
  exact q p _ (z0f hp _) (.inl (SqL.of z0d))
 |false=>
  refine .inr ⟨a,_,rfl,h,y2r,fun p hp=>?_⟩
  rw[z1F]
  exact q p _ (z0f hp _) (.inr (SqT.of z0d))
theorem z1w (rs:List Int):(rs.map V.int).any trV=true↔∃n∈rs,n≠0:=by
 rw[List.any_map,q1c]
 constructor
 ·rintro⟨n,hn,h⟩
  exact⟨n,hn,by simpa[trV] using h⟩
 ·rintro⟨n,hn,h⟩
  exact⟨n,hn,by simpa[trV] using h⟩
theorem z1G (rs:List Int):∀y∈rs.map V.int,PlV y:=fun y hy=>by
 obtain⟨n,_,rfl⟩:=q0g.mp hy
 trivial
abbrev z1z:Stmt:=top 8
theorem sc_divisor_of_all:z0q ["numbers","shared","number"] ["numbers"] (z0i z1z):=⟨rfl,rfl,rfl,by decide+kernel,rfl,by decide+kernel,by decide+kernel⟩
def z5C (K:PySem.W.Frag):Sp:=fun vs H Q _=>∃(p:Addr) (rs:List Int),vs=[.ref p]∧SqA K H p (rs.map V.int)∧rs.length≤1000∧Q (.int (z1J rs:Nat)) H
theorem z3w (T:Txt mg) (F:Fun K "divisor_of_all" "divisor_of_all" z1z f fd) (c_divisor:Cal P w K mg base 1 "divisor" ["one","other"] z1L):FnOk P w K mg base CX0 2 f fd ["numbers"] (z5C K):=by
 refine F.ok sc_divisor_of_all (fun vs H Q E h=>?_) (fun cdv A outer s H vs Q E hr h=>?_)
 ·obtain⟨_,_,rfl,_⟩:=h;rfl
 obtain⟨p,rs,rfl,hS,hlen,q⟩:=h
 obtain⟨b,hB⟩:=hS.toB
 refine⟨_,(z0b (z0p (i:=1) sc_divisor_of_all.nd rfl (Or.inl rfl) z0g)
  (z0b (z0T PassesOwn.never rfl (z5g (K:=K) rfl (pv 0)) (z0k (i:=2) sc_divisor_of_all.nd rfl (Or.inl rfl)) (z0e (z0p (i:=1) sc_divisor_of_all.nd rfl (Or.inl rfl) (z0m c_divisor hr rfl (z0a (pv 1) (z0a (pv 2) z0c))))))
  (z0e (z0o (pv 1))))),?_⟩
 refine⟨_,rfl,p,b,_,rfl,hB,?_⟩
 refine z0E (z3s K b p (rs.map V.int)) (fun i σ H'=>H'=H∧∃s2,σ=[some (.ref p),some (.int (z1J (rs.take i):Nat)),s2]) ⟨rfl,_,rfl⟩ (fun i σ H' _ h=>h.1▸hB) ?_ ?_
 ·rintro i x σ H4 H5 hi ⟨rfl,s2,rfl⟩ ⟨rfl,hx⟩
  rw[q0h] at hx
  obtain⟨n,hn,rfl⟩:=q0v.mp hx
  have tk:rs.take (i+1)=rs.take i++[n]:=by rw[q0R,hn];rfl
  refine⟨_,rfl,_,rfl,_,_,rfl,?_⟩
  rw[tk,z7e]
  exact⟨rfl,_,rfl⟩
 ·rintro σ H4 ⟨rfl,s2,rfl⟩
  rw[q0a,q0T]
  exact⟨_,rfl,q⟩
abbrev y0R:Stmt:=top 14
theorem sc_wall:z0q ["numbers","shared","leading"] ["numbers"] (z0i y0R):=⟨rfl,rfl,rfl,by decide+kernel,rfl,by decide+kernel,by decide+kernel⟩
def z8w (K:PySem.W.Frag):Sp:=fun vs H Q _=>∃(p:Addr) (ns:List Int) (last:Int),vs=[.ref p]∧SqA K H p ((ns++[last]).map V.int)∧(ns++[last]).length ≤1000∧(∀n∈ns++[last],intBits n≤9000)∧
 (∃n∈ns,n≠0)∧∀t H',Same H H'→H' t=some (.tup ((z0n (ns++[last])).map V.int))→Q (.ref t) H'
theorem z8g (rs:List Int) (h:z0N rs≠0):atI (((rs.map V.int).filter fun v=>match v with| .int n=> !decide (V.int n=V.int 0)|_=>false).map fun v=>v) 0=some (.int (z0N rs)):=by
 rw[List.map_id']
 induction rs with
 |nil=>exact absurd rfl h
 |cons m r ih=>
  rw[q0u]
  by_cases hm:m=0
  ·subst hm
   rw[q1g (by simp)]
   have e:z0N (0::r)=z0N r:=if_pos rfl
   rw[e] at h ⊢
   exact ih h
  ·rw[q1f (by simp[hm])]
   have e:z0N (m::r)=m:=if_neg hm
   rw[e]
   exact z2E (j:=0) rfl
theorem y5d (T:Txt mg) (F:Fun K "wall" "wall" y0R f fd) (c_divisor_of_all:Cal P w K mg base 2 "divisor_of_all" ["numbers"] (z5C K)):FnOk P w K mg base CX0 3 f fd ["numbers"] (z8w K):=by
 refine F.ok sc_wall (fun vs H Q E h=>?_) (fun cdv A outer s H vs Q E hr h=>?_)
 ·obtain⟨_,_,_,rfl,_⟩:=h;rfl
 obtain⟨p,ns,last,rfl,hS,hlen,zb,hnz,q⟩:=h
 obtain⟨b,hB⟩:=hS.toB
 refine⟨_,(z0b (z0J (z1e (z0W (z0x (z1S (K:=K) rfl rfl) rfl T.any boot_any (z0a (z0Y (z7D (K:=K) rfl) (pv 0) z1t (z1f (z1E z1c z0g))) z0c)))) (z0e z3c) z0y)
  (z0b (z0p (i:=1) sc_wall.nd rfl (Or.inr rfl) (z0m c_divisor_of_all hr rfl (z0a (pv 0) z0c)))
  (z0b (z0p (i:=2) sc_wall.nd rfl (Or.inl rfl) (z0G (z0B (K:=K) rfl) (z0L (Nc:=["number"]) (fr:=[none]) rfl (z5g (K:=K) rfl (pv 0)) rfl (by decide) rfl (by decide) rfl trivial trivial (fun _ _ _ _=>(z0k (i:=0) (show List.Nodup (["number"]:List Str) from by decide) rfl (Or.inl rfl))) (fun _ _ _ _=>(z3t (z0A z4Q (pv 0) z0g (z0F _)))) (fun _ _ _ _=>(pv 0))) z0g (fun _ _=>rfl)))
  (z0b (z0J (z0A z4R (pv 2) z0g (z0F _)) (z0e (z0p (i:=1) sc_wall.nd rfl (Or.inr rfl) (z1E z1c (pv 1)))) z0y)
  (z0e (z0o (z1i (z1R (K:=K) rfl) rfl T.tuple boot_tuple (z0a (z0L (Nc:=["number","shared"]) (fr:=[none,some 1]) rfl (z5g (K:=K) rfl (pv 0)) rfl (by decide) rfl (by decide) rfl ⟨rfl,trivial⟩ ⟨⟨rfl,rfl,rfl,rfl⟩,trivial⟩ (fun _ _ _ _=>(z0k (i:=0) (show List.Nodup (["number","shared"]:List Str) from by decide) rfl (Or.inl rfl))) (fun _ _ _ _=>z0K) (fun _ _ _ _=>(z0v z3e (pv 0) (pv 1)))) z0c)))))))),?_⟩
 refine⟨_,rfl,_,rfl,_,rfl,z7C (by rw[q0x] at hB;exact hB) fun q1 H1 g1 hq1=>?_⟩
 refine⟨q1,_,rfl,hq1,z1G ns,_,rfl,?_⟩
 rw[(z1w ns).mpr hnz]
 refine z1I ?_
 have hnz2:∃n∈ns++[last],n≠0:=let ⟨n,h1,h2⟩:=hnz;⟨n,q0B _ h1,h2⟩
 generalize ns++[last]=rs at*
 have hB1:=hB.same g1
 have hS1:=hS.same g1
 refine⟨_,rfl,p,rs,rfl,hS1,hlen,?_⟩
 refine⟨_,rfl,p,b,_,rfl,hB1,fun D hD=>?_⟩
 refine z1k rfl (z3s K b p (rs.map V.int)) hD (fun v=>match v with| .int n=> !decide (V.int n=V.int 0)|_=>false) (fun v=>v) (fun H' g'=>hB1.same g') (z0j (by rw[q0a];lia)) ?_ ?_ ?_
 ·intro x hx Hc gc S h
  obtain⟨n,_,rfl⟩:=q0g.mp hx
  exact⟨_,rfl,rfl,_,rfl,h⟩
 ·intro x hx _ Hc gc S h
  exact⟨_,rfl,h⟩
 ·refine⟨D,_,_,_,rfl,rfl,SqL.of z0d,z8g rs (z6d hnz2),?_⟩
  have gD:=z0f (H:=H1) hD (.lst ((((rs.map V.int).filter fun v=>match v with| .int n=> !decide (V.int n=V.int 0)|_=>false)).map fun v=>v))
  generalize upd H1 D (.lst ((((rs.map V.int).filter fun v=>match v with| .int n=> !decide (V.int n=V.int 0)|_=>false)).map fun v=>v))=H5 at gD
  have hB5:=hB1.same gD
  refine⟨_,rfl,_,_,rfl,rfl,_,rfl,?_⟩
  have hby:byL rs≠0∧intBits (byL rs)≤9000:=⟨z2Q hnz2,z9j hnz2 zb⟩
  refine z3i (fun c=>?_) (fun c=>?_)
  case' _=>
   have c':z0N rs<0:=of_decide_eq_true c
   have eb: -(z1J rs:Int)=byL rs:=by unfold byL;rw[if_pos c']
   refine⟨_,rfl,_,rfl,?_⟩
   dsimp only
   rw[eb]
  rotate_left
  case' _=>
   have c':¬z0N rs<0:=fun z=>c (decide_eq_true z)
   have eb:(z1J rs:Int)=byL rs:=by unfold byL;rw[if_neg c']
   rw[eb]
  all_goals
   refine⟨_,rfl,p,b,_,rfl,hB5,fun D2 hD2=>?_⟩
   refine z1k rfl (z3s K b p (rs.map V.int)) hD2 (fun _=>true) (fun v=>match v with| .int n=> .int (n.fdiv (byL rs))|u=>u) (fun H' g'=>hB5.same g') (z0j (by rw[q0a];lia)) ?_ ?_ ?_
   ·intro x _ Hc _ S h
    exact h
   ·intro x hx _ Hc _ S h
    obtain⟨n,_,rfl⟩:=q0g.mp hx
    exact⟨_,rfl,_,rfl,_,_,rfl,rfl,hby,h⟩
   ·rw[z0C,q0C]
    have em:rs.map ((fun v=>match v with| .int n=>V.int (n.fdiv (byL rs))|u=>u)∘V.int)=(z0n rs).map V.int:=by
     unfold z0n
     rw[q0C];rfl
    rw[em]
    exact⟨D2,_,rfl,.inl ⟨SqL.of z0d,fun t ht=>q t _ (g1.trans (gD.trans ((z0f hD2 _).trans (z0f ht _)))) z0d⟩⟩
end
section
open Fr Wl
open Builtin.Int (intBits)
variable {P:Program}{w:World}{K:PySem.W.Frag}{mg:Str→Option Value}{base:Heap}{f:Addr}{fd:FuncData}
abbrev z3o:Stmt:=top 58
theorem sc_l_digits:z0q ["_law_script","_law_start","_law_many","_law_base","_law_found","_law_number","_law_k"] ["_law_script","_law_start","_law_many","_law_base"] (z0i z3o):=⟨rfl,rfl,rfl,by decide+kernel,rfl,by decide+kernel,by decide+kernel⟩
def z8F (K:PySem.W.Frag):Sp:=fun vs H Q _=>∃(a:Addr) (ss:List Int) (st many bs:Int),vs=[.ref a,.int st,.int many,.int bs]∧SqL K H a (ss.map V.int)∧ss.length≤63∧0≤st∧st≤1000∧0≤many∧many≤1000∧0<bs∧bs≤1000∧
 ∀(ds:List Int) (l:Addr) (H':Hp),(ds.length:Int)=many→(∀d∈ds,0≤d∧d<bs)→Same H H'→H' l=some (.lst (ds.map V.int))→Q (.ref l) H'
theorem z7V (T:Txt mg) (F:Fun K "_law_digits" "_law_digits" z3o f fd) (c_l_cell_at:Cal P w K mg base 2 "_law_cell_at" ["_law_script","_law_k"] (y0H K)) (c_l_mixed:Cal P w K mg base 2 "_law_mixed" ["_law_script","_law_k"] (z7y K)):FnOk P w K mg base CX0 3 f fd ["_law_script","_law_start","_law_many","_law_base"] (z8F K):=by
 refine F.ok sc_l_digits (fun vs H Q E h=>?_) (fun cdv A outer s H vs Q E hr h=>?_)
 ·obtain⟨_,_,_,_,_,rfl,_⟩:=h;rfl
 obtain⟨a,ss,st,many,bs,rfl,hS,h63,st0,st1,m0,m1,b0,b1,q⟩:=h
 have cfb:∀i:Int,CFp i bs:=fun i=>⟨b0,q0p (z2r (by lia) (by lia)) (by decide)⟩
 refine⟨_,(z0b (z0p (i:=4) sc_l_digits.nd rfl (Or.inl rfl) (z0O z0c))
  (z0b (z0p (i:=5) sc_l_digits.nd rfl (Or.inl rfl) (z0m c_l_cell_at hr rfl (z0a (pv 0) (z0a z0g z0c))))
  (z0b (z0T PassesOwn.never rfl (z1y rfl T.range (z0a (pv 2) z0c)) (z0k (i:=6) sc_l_digits.nd rfl (Or.inl rfl)) (z0e (z0J (z0A z7S (z0v z0Z (z0m c_l_cell_at hr rfl (z0a (pv 0) (z0a z0g z0c))) z0g) z0g (z0F _)) (z0b (z1o (z4q PySem.F.plainAttrs_list PySem.F.slot_list_append PySem.F.type_list_append z1j (pv 4) (z0a (z0v z0Z (pv 5) (pv 3)) z0c)))
  (z0e (z0p (i:=5) sc_l_digits.nd rfl (Or.inl rfl) (z0v z1v (pv 5) (pv 3))))) (z0e (z1o (z4q PySem.F.plainAttrs_list PySem.F.slot_list_append PySem.F.type_list_append z1j (pv 4) (z0a (z0v z0Z (z0m c_l_mixed hr rfl (z0a (pv 0) (z0a (z0v z1s (pv 1) (pv 6)) z0c))) (pv 3)) z0c)))))))
  (z0e (z0o (pv 4)))))),?_⟩
 refine⟨q0S _,fun l hl=>?_⟩
 have g0:=z0f hl (.lst [])
 refine⟨_,rfl,a,ss,1,rfl,SqL.same g0 hS,by decide,?_⟩
 refine⟨_,rfl,many,rfl,by lia,by lia,?_⟩
 refine z0E (z1m 0 many.toNat) (fun i σ H'=>∃(ds:List Int) (num:Int) (s6:Option V),σ=[some (.ref a),some (.int st),some (.int many),some (.int bs),some (.ref l),some (.int num),s6]∧H' l=some (.lst (ds.map V.int))∧ds.length=i∧(∀d∈ds,0≤d∧d<bs)∧Same H H') ?_ (fun _ _ _ _ _=>trivial) ?_ ?_
 ·exact⟨[],_,_,rfl,z0d,rfl,by simp,g0⟩
 ·rintro i x σ H1 H2 hi ⟨ds,num,s6,rfl,hl1,hlen,hb,g⟩ ⟨rfl,rfl⟩
  have more:∀z:Int,0≤z→z<bs→∀(num':Int),∃(ds':List Int) (n':Int) (s6':Option V),[some (.ref a),some (.int st),some (.int many),some (.int bs),some (.ref l),some (.int num'),some (.int (0+(i:Int)))]=[some (V.ref a),some (.int st),some (.int many),some (.int bs),some (.ref l),some (.int n'),s6']∧
        upd H2 l (.lst (ds.map V.int++[.int z])) l=some (.lst (ds'.map V.int))∧ds'.length=i+1∧(∀d∈ds',0≤d∧d<bs)∧Same H (upd H2 l (.lst (ds.map V.int++[.int z]))):=fun z z0 z1 num'=>by
   refine⟨ds++[z],num',_,rfl,by rw[z0d];simp,by simp[hlen],fun d hd=>?_,fun b u e=>by rw[z0l (z0h e hl)];exact g _ _ e⟩
   rcases q0H.mp hd with hd|hd
   ·exact hb d hd
   ·rw[q0m.mp hd];exact⟨z0,z1⟩
  have hz:(ds.map V.int).length <sizeLine:=z2n (by rw[q0a,hlen];lia)
  refine⟨_,rfl,a,ss,0,rfl,SqL.same g hS,by decide,_,_,rfl,rfl,cm,rfl,_,rfl,?_⟩
  refine z3i (fun c=>?_) (fun c=>?_)
  ·refine⟨_,rfl,.inl ⟨rfl,_,SqL.of hl1⟩,_,rfl,_,rfl,_,_,rfl,rfl,b0,l,_,_,rfl,rfl,hl1,hz,?_⟩
   refine⟨_,rfl,_,rfl,_,_,rfl,rfl,cfb _,?_⟩
   exact more _ (Int.emod_nonneg _ (by lia)) (Int.emod_lt_of_pos _ b0) _
  ·refine⟨_,rfl,.inl ⟨rfl,_,SqL.of hl1⟩,_,rfl,_,rfl,_,rfl,_,_,rfl,rfl,a,ss,_,rfl,SqL.same g hS,h63,by lia,by lia,fun r r0 r1=>?_⟩
   exact⟨_,rfl,_,_,rfl,rfl,b0,l,_,_,rfl,rfl,hl1,hz,more _ (Int.emod_nonneg _ (by lia)) (Int.emod_lt_of_pos _ b0) _⟩
 ·rintro σ H1 ⟨ds,num,s6,rfl,hl1,hlen,hb,g⟩
  exact⟨_,rfl,q ds l _ (by lia) hb g hl1⟩
abbrev z4e:Stmt:=top 59
theorem sc_l_plain:z0q ["_law_row","_law_by","_law_lead","_law_number"] ["_law_row"] (z0i z4e):=⟨rfl,rfl,rfl,by decide+kernel,rfl,by decide+kernel,by decide+kernel⟩
def y0A (K:PySem.W.Frag):Sp:=fun vs H Q _=>∃(p:Addr) (rs:List Int),vs=[.ref p]∧SqA K H p (rs.map V.int)∧rs.length≤1000∧(∀n∈rs,intBits n≤9000)∧(∃n∈rs,n≠0)∧
 ∀t H',Same H H'→H' t=some (.tup ((z0n rs).map V.int))→Q (.ref t) H'
theorem z9D (T:Txt mg) (F:Fun K "_law_plain" "_law_plain" z4e f fd) (c_l_divisor:Cal P w K mg base 1 "_law_divisor" ["_law_one","_law_other"] z1L):FnOk P w K mg base CX0 2 f fd ["_law_row"] (y0A K):=by
 refine F.ok sc_l_plain (fun vs H Q E h=>?_) (fun cdv A outer s H vs Q E hr h=>?_)
 ·obtain⟨_,_,rfl,_⟩:=h;rfl
 obtain⟨p,rs,rfl,hS,hlen,zb,hnz,q⟩:=h
 obtain⟨b,hB⟩:=hS.toB
 refine⟨_,(z0b (z0p (i:=1) sc_l_plain.nd rfl (Or.inr rfl) z0g)
  (z0b (z0p (i:=2) sc_l_plain.nd rfl (Or.inl rfl) z0g)
  (z0b (z0T PassesOwn.never rfl (z5g (K:=K) rfl (pv 0)) (z0k (i:=3) sc_l_plain.nd rfl (Or.inl rfl)) (z0b (z0p (i:=1) sc_l_plain.nd rfl (Or.inr rfl) (z0m c_l_divisor hr rfl (z0a (pv 1) (z0a (pv 3) z0c))))
  (z0e (z0J (z0A z7S (pv 2) z0g (z0F _)) (z0e (z0p (i:=2) sc_l_plain.nd rfl (Or.inl rfl) (pv 3))) z0y))))
  (z0b (z0J (z0A z4R (pv 2) z0g (z0F _)) (z0e (z0p (i:=1) sc_l_plain.nd rfl (Or.inr rfl) (z0v z2p z0g (pv 1)))) z0y)
  (z0e (z0o (z1i (z1R (K:=K) rfl) rfl T.tuple boot_tuple (z0a (z0L (Nc:=["_law_number","_law_by"]) (fr:=[none,some 1]) rfl (z5g (K:=K) rfl (pv 0)) rfl (by decide) rfl (by decide) rfl ⟨rfl,trivial⟩ ⟨⟨rfl,rfl,rfl,rfl⟩,trivial⟩ (fun _ _ _ _=>(z0k (i:=0) (show List.Nodup (["_law_number","_law_by"]:List Str) from by decide) rfl (Or.inl rfl))) (fun _ _ _ _=>z0K) (fun _ _ _ _=>(z0v z3e (pv 0) (pv 1)))) z0c)))))))),?_⟩
 refine⟨_,rfl,p,b,_,rfl,hB,?_⟩
 refine z0E (z3s K b p (rs.map V.int)) (fun i σ H'=>H'=H∧∃s3,σ=[some (.ref p),some (.int (z1J (rs.take i):Nat)),some (.int (z0N (rs.take i))),s3]) ⟨rfl,_,rfl⟩ (fun i σ H' _ h=>h.1▸hB) ?_ ?_
 ·rintro i x σ H4 H5 hi ⟨rfl,s3,rfl⟩ ⟨rfl,hx⟩
  rw[q0h] at hx
  obtain⟨n,hn,rfl⟩:=q0v.mp hx
  have tk:rs.take (i+1)=rs.take i++[n]:=by rw[q0R,hn];rfl
  refine⟨_,rfl,_,rfl,_,_,rfl,?_⟩
  rw[tk,z7e,z5l]
  refine⟨_,rfl,rfl,_,rfl,?_⟩
  refine z3i (fun c=>?_) (fun c=>?_)
  ·have c':z0N (rs.take i)=0:=by simpa using c
   rw[if_pos c']
   exact⟨_,rfl,rfl,_,rfl⟩
  ·have c':¬z0N (rs.take i)=0:=by simpa using c
   rw[if_neg c']
   exact⟨rfl,_,rfl⟩
 ·rintro σ H4 ⟨rfl,s3,rfl⟩
  rw[q0a,q0T]
  have hby:byL rs≠0∧intBits (byL rs)≤9000:=⟨z2Q hnz,z9j hnz zb⟩
  refine⟨_,rfl,_,_,rfl,rfl,_,rfl,?_⟩
  refine z3i (fun c=>?_) (fun c=>?_)
  case' _=>
   have c':z0N rs<0:=of_decide_eq_true c
   have eb:0 - (z1J rs:Int)=byL rs:=by unfold byL;rw[if_pos c'];lia
   refine⟨_,rfl,_,_,rfl,rfl,?_⟩
   dsimp only
   rw[eb]
  rotate_left
  case' _=>
   have c':¬z0N rs<0:=fun z=>c (decide_eq_true z)
   have eb:(z1J rs:Int)=byL rs:=by unfold byL;rw[if_neg c']
   rw[eb]
  all_goals
   refine⟨_,rfl,p,b,_,rfl,hB,fun D2 hD2=>?_⟩
   refine z1k rfl (z3s K b p (rs.map V.int)) hD2 (fun _=>true) (fun v=>match v with| .int n=> .int (n.fdiv (byL rs))|u=>u) (fun H' g'=>hB.same g') (z0j (by rw[q0a];lia)) ?_ ?_ ?_
   ·intro x _ Hc _ S h
    exact h
   ·intro x hx _ Hc _ S h
    obtain⟨n,_,rfl⟩:=q0g.mp hx
    exact⟨_,rfl,_,rfl,_,_,rfl,rfl,hby,h⟩
   ·rw[z0C,q0C]
    have em:rs.map ((fun v=>match v with| .int n=>V.int (n.fdiv (byL rs))|u=>u)∘V.int)=(z0n rs).map V.int:=by
     unfold z0n
     rw[q0C];rfl
    rw[em]
    exact⟨D2,_,rfl,.inl ⟨SqL.of z0d,fun t ht=>q t _ ((z0f hD2 _).trans (z0f ht _)) z0d⟩⟩
abbrev z3n:Stmt:=top 60
theorem sc_l_fences:z0q ["_law_script","_law_start","_law_ways","_law_many","_law_digits_here","_law_found","_law_k","_law_row","_law_one"] ["_law_script","_law_start","_law_ways","_law_many"] (z0i z3n):=⟨rfl,rfl,rfl,by decide+kernel,rfl,by decide+kernel,by decide+kernel⟩
def z8D (K:PySem.W.Frag):Sp:=fun vs H Q _=>∃(a:Addr) (ss:List Int) (st ways many:Int),vs=[.ref a,.int st,.int ways,.int many]∧SqL K H a (ss.map V.int)∧ss.length≤63∧0≤st∧st≤1000∧0≤ways∧ways≤4∧0≤many∧many≤20∧
 ∀(l:Addr) (as:List Addr) (ts:List (List Int)) (H':Hp),H l=none→(ts.length:Int)≤many→ts.Nodup→(∀t∈ts,∃rs:List Int,t=z0n rs∧(rs.length:Int)=ways+1∧(∃n∈rs.dropLast,n≠0)∧∀n∈rs,-3≤n∧n≤3)→Same H H'→H' l=some (.lst (as.map V.ref))→TsA H' as ts→Q (.ref l) H'
theorem z7U (T:Txt mg) (F:Fun K "_law_fences" "_law_fences" z3n f fd) (c_l_digits:Cal P w K mg base 3 "_law_digits" ["_law_script","_law_start","_law_many","_law_base"] (z8F K)) (c_l_plain:Cal P w K mg base 3 "_law_plain" ["_law_row"] (y0A K)):FnOk P w K mg base CX0 4 f fd ["_law_script","_law_start","_law_ways","_law_many"] (z8D K):=by
 refine F.ok sc_l_fences (fun vs H Q E h=>?_) (fun cdv A outer s H vs Q E hr h=>?_)
 ·obtain⟨_,_,_,_,_,rfl,_⟩:=h;rfl
 obtain⟨a,ss,st,ways,many,rfl,hS,h63,st0,st1,w0,w4,m0,m1,q⟩:=h
 have zw:∀z:Int,-1000≤z→z≤1000→intBits z≤64:=fun z h1 h2=>z2r (by lia) (by lia)
 have wm0:0≤(ways+1)*many:=q0U (by lia) m0
 have wm1:(ways+1)*many≤5*20:=Int.mul_le_mul (by lia) m1 m0 (by decide)
 refine⟨_,(z0b (z0p (i:=4) sc_l_fences.nd rfl (Or.inl rfl) (z0m c_l_digits hr rfl (z0a (pv 0) (z0a (pv 1) (z0a (z0v z0I (z0v z1s (pv 2) z0g) (pv 3)) (z0a z0g z0c))))))
  (z0b (z0p (i:=5) sc_l_fences.nd rfl (Or.inl rfl) (z0O z0c))
  (z0b (z0T PassesOwn.never rfl (z1y rfl T.range (z0a (pv 3) z0c)) (z0k (i:=6) sc_l_fences.nd rfl (Or.inl rfl)) (z0b (z3u (jj:=7) rfl sc_l_fences.nd rfl (Or.inl rfl) (Or.inl rfl) (Nc:=["_law_digit"]) (fr:=[none]) rfl (z0D (K:=K) rfl (z0Y (z1n (K:=K) rfl) (pv 4) (z1f (z0v z0I (z0v z1s (pv 2) z0g) (pv 6))) (z1f (z0v z0I (z0v z1s (pv 2) z0g) (z0v z1s (pv 6) z0g))))) rfl (by decide) rfl (by decide) rfl trivial trivial (fun _ _ _ _=>(z0k (i:=0) (show List.Nodup (["_law_digit"]:List Str) from by decide) rfl (Or.inl rfl))) (fun _ _ _ _=>z0K) (fun _ _ _ _=>(z0v z2p (pv 0) z0g)))
  (z0e (z0J (z0W (z0x (z1S (K:=K) rfl rfl) rfl T.any boot_any (z0a (z0Y (z1n (K:=K) rfl) (pv 7) z1t (z1f (z1E z1c z0g))) z0c))) (z0b (z0p (i:=8) sc_l_fences.nd rfl (Or.inl rfl) (z0m c_l_plain hr rfl (z0a (pv 7) z0c)))
  (z0e (z0J (z0A (z9y (K:=K) rfl hr.units) (pv 8) (pv 5) (by with_unfolding_all rfl)) (z0e (z1o (z4q PySem.F.plainAttrs_list PySem.F.slot_list_append PySem.F.type_list_append z1j (pv 5) (z0a (pv 8) z0c)))) z0y))) z0y))))
  (z0e (z0o (pv 5)))))),?_⟩
 refine⟨_,rfl,_,rfl,_,rfl,_,_,rfl,rfl,_,rfl,_,_,rfl,rfl,z1u (zw _ (by lia) (by lia)) (zw _ (by lia) (by lia)),a,ss,st,_,7,rfl,hS,h63,st0,st1,wm0,by lia,by decide,by decide,fun ds ld H0 hdl hdb g0 hld=>?_⟩
 refine⟨q0S _,fun l hl=>?_⟩
 have g1:=z0f hl (.lst [])
 have hl0:H l=none:=g0.free hl
 refine⟨_,rfl,many,rfl,by lia,by lia,?_⟩
 refine z0E (z1m 0 many.toNat) (fun i σ H'=>∃(as:List Addr) (ts:List (List Int)) (s6 s7 s8:Option V),σ=[some (.ref a),some (.int st),some (.int ways),some (.int many),some (.ref ld),some (.ref l),s6,s7,s8]∧H' l=some (.lst (as.map V.ref))∧TsA H' as ts∧ts.length≤i∧ts.Nodup∧
  (∀t∈ts,∃rs:List Int,t=z0n rs∧(rs.length:Int)=ways+1∧(∃n∈rs.dropLast,n≠0)∧∀n∈rs,-3≤n∧n≤3)∧Same H0 H') ?_ (fun _ _ _ _ _=>trivial) ?_ ?_
 ·exact⟨[],[],_,_,_,rfl,z0d,TsA.nil,q0j _,List.nodup_nil,by simp,g1⟩
 ·rintro i x σ H1 H2 hi ⟨as,ts,s6,s7,s8,rfl,hl1,hts,hlen,hnd,hp,g⟩ ⟨rfl,rfl⟩
  have hld1:=g _ _ hld
  have hi':(i:Int)+1≤many:=by lia
  have lo0:0≤(ways+1)*(0+(i:Int)):=q0U (by lia) (by lia)
  have lo1:(ways+1)*(0+(i:Int))≤5*20:=Int.mul_le_mul (by lia) (by lia) (by lia) (by decide)
  have hi1:(ways+1)*(0+(i:Int)+1)≤(ways+1)*many:=Int.mul_le_mul_of_nonneg_left (by lia) (by lia)
  have hi2:(ways+1)*(0+(i:Int)+1)=(ways+1)*(0+(i:Int))+(ways+1):=by rw[Int.mul_add,Int.mul_one]
  refine⟨_,rfl,_,rfl,_,_,rfl,rfl,_,rfl,_,_,rfl,rfl,z1u (zw _ (by lia) (by lia)) (zw _ (by lia) (by lia)),_,rfl,_,rfl,_,_,rfl,rfl,_,rfl,_,_,rfl,rfl,_,_,rfl,rfl,z1u (zw _ (by lia) (by lia)) (zw _ (by lia) (by lia)),_,rfl,ld,_,rfl,SqL.of hld1,fun cq hcq=>?_⟩
  dsimp only
  rw[y5F lo0 (by lia) (by rw[q0a];lia)]
  rw[←List.map_drop,←List.map_take]
  generalize hcs:(ds.drop ((ways+1)*(0+(i:Int))).toNat).take (((ways+1)*(0+(i:Int)+1)).toNat - ((ways+1)*(0+(i:Int))).toNat)=cs
  have csl:(cs.length:Int)=ways+1:=by
   rw[←hcs,q0o,q1K];lia
  have csb:∀d∈cs,0≤d∧d<7:=fun d hd=>by
   rw[←hcs] at hd
   exact hdb d (List.mem_of_mem_drop (q1t hd))
  have g2:=z0f hcq (.lst (cs.map V.int))
  have hq2:upd H2 cq (.lst (cs.map V.int)) cq=some (.lst (cs.map V.int)):=z0d
  refine⟨cq,rfl,⟨_,SqL.of hq2⟩,fun D hD=>?_⟩
  refine z1k rfl (z0z K cq (cs.map V.int)) hD (fun _=>true) (fun v=>match v with| .int n=> .int (n - 3)|u=>u) (fun H' g'=>SqL.of (g' _ _ hq2)) (z0j (by rw[q0a];lia)) ?_ ?_ ?_
  ·intro x _ Hc _ S h
   exact h
  ·intro x hx _ Hc _ S h
   obtain⟨n,_,rfl⟩:=q0g.mp hx
   exact⟨_,rfl,_,_,rfl,rfl,h⟩
  ·rw[z0C,q0C]
   have em:cs.map ((fun v=>match v with| .int n=>V.int (n - 3)|u=>u)∘V.int)=(cs.map fun n=>n - 3).map V.int:=by rw[q0C];rfl
   rw[em]
   have rl:((cs.map fun n=>n - 3).length :Int)=ways+1:=by rw[q0a];exact csl
   have rb:∀n∈cs.map fun n=>n - 3,-3≤n∧n≤3:=fun n hn=>by
        obtain⟨m,hm,rfl⟩:=q0g.mp hn
        have:=csb m hm
        lia
   generalize cs.map (fun n=>n - 3)=rs at*
   obtain⟨ns,last,ers⟩:∃ns last,rs=ns++[last]:=⟨rs.dropLast,rs.getLast (fun z=>by rw[z] at rl;simp at rl;lia),(q0y _).symm⟩
   have g3:=z0f hD (.lst (rs.map V.int))
   have hr3:upd (upd H2 cq (.lst (cs.map V.int))) D (.lst (rs.map V.int)) D=some (.lst (rs.map V.int)):=z0d
   have gg3:=g2.trans g3
   generalize upd (upd H2 cq (.lst (cs.map V.int))) D (.lst (rs.map V.int))=H3 at*
   refine⟨_,rfl,_,rfl,_,rfl,D,_,rfl,SqL.of hr3,fun p4 hp4=>?_⟩
   have ec:z8i (rs.map V.int) none (some (-1))=ns.map V.int:=by rw[ers,q0x];exact z1F
   rw[ec]
   have g4:=z0f hp4 (.lst (ns.map V.int))
   refine⟨p4,_,rfl,.inl (SqL.of z0d),z1G ns,_,rfl,?_⟩
   have gg4:=gg3.trans g4
   have hr4:=g4 _ _ hr3
   generalize upd H3 p4 (.lst (ns.map V.int))=H4 at*
   have hl4:=gg4 _ _ hl1
   have hts4:=hts.same gg4
   refine z3i (fun c=>?_) (fun c=>?_)
   ·obtain⟨n,hn,n0⟩:=(z1w ns).mp c
    have hnz:∃n∈rs,n≠0:=⟨n,by rw[ers];exact q0B _ hn,n0⟩
    have hnd2:∃n∈rs.dropLast,n≠0:=⟨n,by rw[ers,q1F];exact hn,n0⟩
    refine⟨_,rfl,D,rs,rfl,.inl (SqL.of hr4),by lia,fun n hn=>?_,hnz,fun t H5 g5 ht=>?_⟩
    ·have:=rb n hn
     exact q0p (zw n (by lia) (by lia)) (by decide)
    have hl5:=g5 _ _ hl4
    have hts5:=hts4.same g5
    refine⟨_,rfl,_,rfl,l,_,_,_,rfl,.inl (SqL.of hl5),hts5.isDs,z9V ht,y5e,_,rfl,?_⟩
    rw[y6Y]
    refine z3i (fun c2=>?_) (fun c2=>?_)
    ·have c2':z0n rs∉ts:=by simpa using c2
     refine⟨_,rfl,.inl ⟨rfl,_,SqL.of hl5⟩,_,rfl,l,_,_,rfl,rfl,hl5,z2n (by rw[q0a,hts.1];lia),?_⟩
     have gl:∀b o,b≠l→H5 b=some o→upd H5 l (.lst (as.map V.ref++[.ref t])) b=some o:=fun b o hb e=>by rw[z0l hb];exact e
     refine⟨as++[t],ts++[z0n rs],_,_,_,rfl,by rw[z0d];simp,?_,by simp;lia,?_,?_,fun b o e=>gl b o (z0h e hl) (g5 _ _ (gg4 _ _ (g _ _ e)))⟩
     ·have z:=hts5.snoc ht
      refine⟨z.1,fun i a t' e1 e2=>?_⟩
      have:=z.2 i a t' e1 e2
      exact gl _ _ (fun z=>by rw[z,hl5] at this;cases this) this
     ·rw[List.nodup_append]
      exact⟨hnd,by simp,fun x hx y hy=>by rw[q0m.mp hy];rintro rfl;exact c2' hx⟩
     ·intro t' ht'
      rcases q0H.mp ht' with ht'|ht'
      ·exact hp t' ht'
      ·rw[q0m.mp ht'];exact⟨rs,rfl,rl,hnd2,rb⟩
    ·exact⟨as,ts,_,_,_,rfl,hl5,hts5,by lia,hnd,hp,g.trans (gg4.trans g5)⟩
   ·exact⟨as,ts,_,_,_,rfl,hl4,hts4,by lia,hnd,hp,g.trans gg4⟩
 ·rintro σ H1 ⟨as,ts,s6,s7,s8,rfl,hl1,hts,hlen,hnd,hp,g⟩
  exact⟨_,rfl,q l as ts _ hl0 (by lia) hnd hp (g0.trans g) hl1 hts⟩
end
section
open Fr
theorem z8d {n k:Nat} (h:k<n):ixN n (k:Int)=some k:=by
 unfold ixN
 rw[if_pos (by lia),if_pos (by lia)]
 rw[q0J]
theorem z9Y (m:Nat):(List.replicate m [V.int 0]).flatten =(List.replicate m (0:Int)).map V.int:=by
 induction m with
 |zero=>rfl
 |succ m ih=>rw[List.replicate_succ,List.flatten_cons,ih,List.replicate_succ];rfl
end
end L2
namespace L2
open PySem PySem.Spec PyProof.Rows
section
open Fr Wl Rk
open Builtin.Int (intBits)
variable {P:Program}{w:World}{K:PySem.W.Frag}{mg:Str→Option Value}{base:Heap}{f:Addr}{fd:FuncData}
abbrev z2j:Stmt:=top 18
theorem z4P:z0q ["row"] ["row"] (z0i z2j):=⟨rfl,rfl,rfl,by decide+kernel,rfl,by decide+kernel,by decide+kernel⟩
def z2v (K:PySem.W.Frag):Sp:=fun vs H Q _=>∃(p:Addr) (r:List Int),vs=[.ref p]∧SqA K H p (r.map V.int)∧r.length≤1000∧(∃n∈r,n≠0)∧∀H',Same H H'→Q (.int (fp r:Nat)) H'
theorem z4T (T:Txt mg) (F:Fun K "first_place" "first_place" z2j f fd):FnOk P w K mg base CX0 1 f fd ["row"] (z2v K):=by
 refine F.ok z4P (fun vs H Q E h=>?_) (fun cdv A outer s H vs Q E hr h=>?_)
 ·obtain⟨_,_,rfl,_⟩:=h;rfl
 obtain⟨p,r,rfl,hS,hlen,hnz,q⟩:=h
 obtain⟨b,hB⟩:=hS.toB
 refine⟨_,(z0e (z0o (z0G (z0B (K:=K) rfl) (z0L (Nc:=["place","number"]) (fr:=[none,none]) rfl (z8K (K:=K) rfl rfl T.enumerate (z0a (pv 0) z0c)) rfl (by decide) rfl (by decide) rfl trivial trivial (fun _ _ _ _=>(z0S (K:=K) rfl 2 rfl (z0u (z0k (i:=0) (show List.Nodup (["place","number"]:List Str) from by decide) rfl (Or.inl rfl)) (z0u (z0k (i:=1) (show List.Nodup (["place","number"]:List Str) from by decide) rfl (Or.inl rfl)) z0R)))) (fun _ _ _ _=>(z3t (z0A z4Q (pv 1) z0g (z0F _)))) (fun _ _ _ _=>(pv 0))) z0g (fun _ _=>rfl)))),?_⟩
 refine⟨_,rfl,p,b,_,rfl,hB,fun D hD=>?_⟩
 refine z2e rfl (z5d K b p (r.map V.int)) hD (fun c=>match c.2 with| .int n=> !decide (V.int n=V.int 0)|_=>false) Prod.fst ?_ (fun H' g'=>hB.same g') (z0j (by unfold z4U;rw[List.length_mapIdx,List.length_map];lia)) ?_ ?_ ?_
 ·intro p u v σ H hp S h
  exact⟨p,_,rfl,SqT.of hp,rfl,_,_,rfl,_,_,rfl,rfl,h⟩
 ·intro c hc Hc gc S h
  obtain⟨i,n,rfl⟩:∃(i n:Int),c=(.int i,.int n):=by
   unfold z4U at hc
   obtain⟨i,hi,rfl⟩:=List.mem_mapIdx.mp hc
   exact⟨(i:Int),r[i]'(by simpa using hi),by rw[List.getElem_map]⟩
  exact⟨_,rfl,rfl,_,rfl,h⟩
 ·intro c hc _ Hc gc S h
  exact⟨_,rfl,h⟩
 ·intro H' g' hD'
  have e:=z5q r 0 hnz
  refine⟨D,_,_,_,rfl,rfl,SqL.of hD',z2E (j:=0) e,?_⟩
  exact q _ g'
theorem z2f {α β γ:Type} (f:α→β→γ):∀(xs:List α) (ys:List β),List.zipWith f xs ys=(xs.zip ys).map fun c=>f c.1 c.2
 |[],_=>by simp
 |_::_,[]=>by simp
 |x::xs,y::ys=>by rw[List.zipWith_cons_cons,z2f f xs ys];rfl
theorem z8Y {H:Hp}{a:Addr}{xs:List V}{j:Int}{u:V}{Q:VK} (h:SqA K H a xs) (e:atI xs j=some u) (q:Q u H):rIxA K (.ref a) (.int j) H Q:=by
 rcases h with h|h
 ·exact .inl ⟨a,xs,_,u,rfl,rfl,h,e,q⟩
 ·exact .inr ⟨a,xs,_,u,rfl,rfl,h,e,q⟩
theorem y4t {xs:List Int}{j:Nat} (h:j<xs.length):atI (xs.map V.int) (j:Int)=some (.int (v xs j)):=by
 refine z2E ?_
 rw[q0h,q0c h]
 show _=some (V.int (xs.getD j 0))
 rw[q0b,q0c h];rfl
theorem z1d {xs:List Int}{k:Nat} (h:∀n∈xs,intBits n≤k) (j:Nat):intBits (v xs j)≤k:=by
 show intBits (xs.getD j 0)≤k
 rw[q0b]
 cases e:xs[j]? with
 |none=>exact Nat.le_trans (show intBits 0≤0 by decide) (Nat.zero_le _)
 |some n=>exact h n (List.mem_of_getElem? e)
theorem z5r {xs rs:List Int}{bx br:Nat} (hl:xs.length=rs.length) (hnz:∃n∈rs,n≠0) (zx:∀n∈xs,intBits n≤bx) (zr:∀n∈rs,intBits n≤br):∀n∈z0r xs rs,intBits n≤bx+br+1:=fun n hn=>by
 have g0:=z7d (b:=v xs (fp rs)) (z2d hnz)
 have ob:intBits (z4M xs rs)≤br:=intBits_le_of_natAbs (z1Z (q1j ..) g0) (z1d zr _)
 have lb:intBits (z2c xs rs)≤bx:=intBits_le_of_natAbs (z1Z (q1I ..) g0) (z1d zx _)
 unfold z0r at hn
 rw[z2f] at hn
 obtain⟨c,hc,rfl⟩:=q0g.mp hn
 obtain⟨h1,h2⟩:=q1o (show (c.1,c.2)∈xs.zip rs from hc)
 exact q0p (intBits_sub_le (intBits_mul_le ob (zx _ h1)) (intBits_mul_le lb (zr _ h2))) (by lia)
abbrev z4m:Stmt:=top 19
theorem sc_cleared:z0q ["numbers","row","place","shared","own","less"] ["numbers","row"] (z0i z4m):=⟨rfl,rfl,rfl,by decide+kernel,rfl,by decide+kernel,by decide+kernel⟩
def z3Z (K:PySem.W.Frag):Sp:=fun vs H Q _=>∃(p o:Addr) (xs rs:List Int) (bx br:Nat),vs=[.ref p,.ref o]∧SqA K H p (xs.map V.int)∧SqA K H o (rs.map V.int)∧xs.length=rs.length∧rs.length≤1000∧(∀n∈xs,intBits n≤bx)∧(∀n∈rs,intBits n≤br)∧bx≤20000∧br≤9000∧(∃n∈rs,n≠0)∧
 ∀(l:Addr) (H':Hp),(∀n∈z0r xs rs,intBits n≤bx+br+1)→Same H H'→H' l=some (.lst ((z0r xs rs).map V.int))→Q (.ref l) H'
theorem z9L (T:Txt mg) (F:Fun K "cleared" "cleared" z4m f fd) (c_first_place:Cal P w K mg base 1 "first_place" ["row"] (z2v K)) (c_divisor:Cal P w K mg base 1 "divisor" ["one","other"] z1L):FnOk P w K mg base CX0 2 f fd ["numbers","row"] (z3Z K):=by
 refine F.ok sc_cleared (fun vs H Q E h=>?_) (fun cdv A outer s H vs Q E hr h=>?_)
 ·obtain⟨_,_,_,_,_,_,rfl,_⟩:=h;rfl
 obtain⟨p,o,xs,rs,bx,br,rfl,hX,hR,hl,hlen,zx,zr,hbx,hbr,hnz,q⟩:=h
 refine⟨_,(z0b (z0p (i:=2) sc_cleared.nd rfl (Or.inl rfl) (z0m c_first_place hr rfl (z0a (pv 1) z0c)))
  (z0b (z0p (i:=3) sc_cleared.nd rfl (Or.inl rfl) (z0m c_divisor hr rfl (z0a (z0G (z6e (K:=K) rfl) (pv 1) (pv 2) (fun _ _=>rfl)) (z0a (z0G (z6e (K:=K) rfl) (pv 0) (pv 2) (fun _ _=>rfl)) z0c))))
  (z0b (z0p (i:=4) sc_cleared.nd rfl (Or.inr rfl) (z0v z3e (z0G (z6e (K:=K) rfl) (pv 1) (pv 2) (fun _ _=>rfl)) (pv 3)))
  (z0b (z0p (i:=5) sc_cleared.nd rfl (Or.inr rfl) (z0v z3e (z0G (z6e (K:=K) rfl) (pv 0) (pv 2) (fun _ _=>rfl)) (pv 3)))
  (z0e (z0o (z0L (Nc:=["one","other","own","less"]) (fr:=[none,none,some 4,some 5]) rfl (z2A (K:=K) rfl rfl T.zip (z0a (pv 0) (z0a (pv 1) z0c))) rfl (by decide) rfl (by decide) rfl ⟨rfl,⟨rfl,trivial⟩⟩ ⟨⟨rfl,rfl,rfl,rfl⟩,⟨⟨rfl,rfl,rfl,rfl⟩,trivial⟩⟩ (fun _ _ _ _=>(z0S (K:=K) rfl 2 rfl (z0u (z0k (i:=0) (show List.Nodup (["one","other","own","less"]:List Str) from by decide) rfl (Or.inl rfl)) (z0u (z0k (i:=1) (show List.Nodup (["one","other","own","less"]:List Str) from by decide) rfl (Or.inl rfl)) z0R)))) (fun _ _ _ _=>z0K) (fun _ _ _ _=>(z0v z2p (z0v z0I (pv 2) (pv 0)) (z0v z0I (pv 3) (pv 1))))))))))),?_⟩
 refine⟨_,rfl,o,rs,rfl,hR,hlen,hnz,fun H1 g1=>?_⟩
 have hX1:=hX.same g1
 have hR1:=hR.same g1
 have lt:fp rs<rs.length:=y3F hnz
 have ltx:fp rs<xs.length:=by lia
 have n0:=z2d hnz
 have g0:=z7d (b:=v xs (fp rs)) n0
 have ob:intBits (z4M xs rs)≤br:=intBits_le_of_natAbs (z1Z (q1j ..) g0) (z1d zr _)
 have lb:intBits (z2c xs rs)≤bx:=intBits_le_of_natAbs (z1Z (q1I ..) g0) (z1d zx _)
 have gb:intBits ((Int.gcd (v rs (fp rs)) (v xs (fp rs)):Nat):Int)≤9000:=by
  refine intBits_le_of_natAbs (y:=v rs (fp rs)) ?_ (q0p (z1d zr _) (by lia))
  rw[Int.natAbs_natCast]
  exact Nat.le_of_dvd (Int.natAbs_pos.mpr n0) (Int.natAbs_dvd_natAbs.mpr (q1j (a:=v rs (fp rs)) (b:=v xs (fp rs))))
 refine⟨_,rfl,_,rfl,z8Y hR1 (y4t lt) ⟨_,rfl,_,rfl,z8Y hX1 (y4t ltx) ⟨_,_,rfl,?_⟩⟩⟩
 refine⟨_,rfl,_,rfl,z8Y hR1 (y4t lt) ⟨_,rfl,_,_,rfl,rfl,⟨g0,gb⟩,?_⟩⟩
 refine⟨_,rfl,_,rfl,z8Y hX1 (y4t ltx) ⟨_,rfl,_,_,rfl,rfl,⟨g0,gb⟩,?_⟩⟩
 obtain⟨b1,hB1⟩:=hX1.toB
 obtain⟨b2,hB2⟩:=hR1.toB
 refine⟨_,rfl,_,rfl,p,o,b1,b2,_,_,rfl,hB1,hB2,fun D hD=>?_⟩
 refine z2e rfl (z1x K b1 b2 p o (xs.map V.int) (rs.map V.int)) hD (fun _=>true) (fun c=>match c with|(.int m,.int n)=> .int (z4M xs rs*m - z2c xs rs*n)|_=> .non) ?_ (fun H' g'=>⟨hB1.same g',hB2.same g'⟩) (z0j (by rw[q0Q,q0a,q0a];lia)) ?_ ?_ ?_
 ·intro p u v σ H hp S h
  exact⟨p,_,rfl,SqT.of hp,rfl,_,_,rfl,_,_,rfl,rfl,h⟩
 ·intro c hc Hc gc S h
  exact h
 ·intro c hc _ Hc gc S h
  obtain⟨m,n,rfl,hm,hn⟩:∃(m n:Int),c=(.int m,.int n)∧m∈xs∧n∈rs:=by
   obtain⟨c1,c2⟩:=c
   obtain⟨h1,h2⟩:=q1o hc
   obtain⟨m,hm,rfl⟩:=q0g.mp h1
   obtain⟨n,hn,rfl⟩:=q0g.mp h2
   exact⟨m,n,rfl,hm,hn⟩
  exact⟨_,rfl,_,rfl,_,_,rfl,rfl,z1u (q0p ob (by omega)) (q0p (zx m hm) (by omega)),_,rfl,_,rfl,_,_,rfl,rfl,z1u (q0p lb (by omega)) (q0p (zr n hn) (by omega)),_,_,rfl,rfl,h⟩
 ·intro H' g' hD'
  rw[z0C] at hD'
  have em:((xs.map V.int).zip (rs.map V.int)).map (fun c=>match c with|(.int m,.int n)=>V.int (z4M xs rs*m - z2c xs rs*n)|_=> .non)=(z0r xs rs).map V.int:=by
   unfold z0r
   rw[z2f,q0C,List.zip_map,q0C]
   rfl
  rw[em] at hD'
  refine q D _ (fun n hn=>?_) (g1.trans g') hD'
  unfold z0r at hn
  rw[z2f] at hn
  obtain⟨c,hc,rfl⟩:=q0g.mp hn
  obtain⟨h1,h2⟩:=q1o (show (c.1,c.2)∈xs.zip rs from hc)
  exact q0p (intBits_sub_le (intBits_mul_le ob (zx _ h1)) (intBits_mul_le lb (zr _ h2))) (by lia)
end
end L2
namespace L2
open PySem PySem.Spec PyProof.Rows
section
open Fr Wl Rk
open Builtin.Int (intBits)
variable {P:Program}{w:World}{K:PySem.W.Frag}{mg:Str→Option Value}{base:Heap}{f:Addr}{fd:FuncData}
def QsA (K:PySem.W.Frag) (H:Hp) (as:List Addr) (ts:List (List Int)):Prop:=as.length=ts.length∧∀(i:Nat) (a:Addr) (t:List Int),as[i]? =some a→ts[i]? =some t→SqA K H a (t.map V.int)
abbrev z4c:Stmt:=top 20
theorem sc_rest_by:z0q ["rows","numbers","rest","row"] ["rows","numbers"] (z0i z4c):=⟨rfl,rfl,rfl,by decide+kernel,rfl,by decide+kernel,by decide+kernel⟩
def y0x (K:PySem.W.Frag):Sp:=fun vs H Q _=>∃(l p:Addr) (as:List Addr) (ts:List (List Int)) (xs:List Int) (bx br:Nat),vs=[.ref l,.ref p]∧H l=some (.lst (as.map V.ref))∧QsA K H as ts∧SqA K H p (xs.map V.int)∧xs.length≤1000∧ts.length≤8∧(∀t∈ts,t.length=xs.length∧(∃n∈t,n≠0)∧∀n∈t,intBits n≤br)∧(∀n∈xs,intBits n≤bx)∧br≤9000∧(∀i,i<ts.length→bx+i*(br+1)≤20000)∧
 ∀(r:Addr) (H':Hp),(∀n∈ts.foldl z0r xs,intBits n≤bx+ts.length*(br+1))→(ts.foldl z0r xs).length =xs.length→Same H H'→H' r=some (.lst ((ts.foldl z0r xs).map V.int))→Q (.ref r) H'
theorem z9B (T:Txt mg) (F:Fun K "rest_by" "rest_by" z4c f fd) (c_cleared:Cal P w K mg base 2 "cleared" ["numbers","row"] (z3Z K)):FnOk P w K mg base CX0 3 f fd ["rows","numbers"] (y0x K):=by
 refine F.ok sc_rest_by (fun vs H Q E h=>?_) (fun cdv A outer s H vs Q E hr h=>?_)
 ·obtain⟨_,_,_,_,_,_,_,rfl,_⟩:=h;rfl
 obtain⟨l,p,as,ts,xs,bx,br,rfl,hl,hts,hX,hlen,h8,zt,zx,hbr,hb,q⟩:=h
 refine⟨_,(z0b (z0p (i:=2) sc_rest_by.nd rfl (Or.inl rfl) (z1i (z2J (K:=K) rfl) rfl T.list boot_list (z0a (pv 1) z0c)))
  (z0b (z0T PassesOwn.never rfl (z0D (K:=K) rfl (pv 0)) (z0k (i:=3) sc_rest_by.nd rfl (Or.inl rfl)) (z0e (z0p (i:=2) sc_rest_by.nd rfl (Or.inl rfl) (z0m c_cleared hr rfl (z0a (pv 2) (z0a (pv 3) z0c))))))
  (z0e (z0o (pv 2))))),?_⟩
 refine⟨_,rfl,p,_,rfl,hX,fun r0 hr0=>?_⟩
 have g0:=z0f hr0 (.lst (xs.map V.int))
 have e0:upd H r0 (.lst (xs.map V.int)) r0=some (.lst (xs.map V.int)):=z0d
 generalize upd H r0 (.lst (xs.map V.int))=H0 at*
 have hl0:=g0 _ _ hl
 refine⟨_,rfl,l,rfl,⟨_,SqL.of hl0⟩,?_⟩
 refine z0E (z0z K l (as.map V.ref)) (fun i σ H'=>∃(r:Addr) (s3:Option V),σ=[some (.ref l),some (.ref p),some (.ref r),s3]∧H' r=some (.lst (((ts.take i).foldl z0r xs).map V.int))∧(∀n∈(ts.take i).foldl z0r xs,intBits n≤bx+i*(br+1))∧((ts.take i).foldl z0r xs).length =xs.length∧Same H H')
  ⟨r0,_,rfl,e0,fun n hn=>q0p (zx n hn) (by lia),rfl,g0⟩ (fun i σ H' _ h=>by obtain⟨_,_,_,_,_,_,g⟩:=h;exact SqL.of (g _ _ hl)) ?_ ?_
 ·rintro i x σ H1 H2 hi ⟨r,s3,rfl,er,zb,el,g⟩ ⟨rfl,hx⟩
  rw[q0a,hts.1] at hi
  rw[q0h] at hx
  obtain⟨a,ha,rfl⟩:=q0v.mp hx
  have et:ts[i]? =some ts[i]:=q0c hi
  have htm:ts[i]∈ts:=q0A hi
  generalize ts[i]=t at et htm
  obtain⟨t1,t2,t3⟩:=zt t htm
  have tk:(ts.take (i+1)).foldl z0r xs=z0r ((ts.take i).foldl z0r xs) t:=by
   rw[q0R,et,List.foldl_append];rfl
  have hm:=hb i hi
  have hm2:(i+1)*(br+1)=i*(br+1)+(br+1):=Nat.succ_mul _ _
  refine⟨_,rfl,_,rfl,r,a,(ts.take i).foldl z0r xs,t,bx+i*(br+1),br,rfl,.inl (SqL.of er),(hts.2 i a t ha et).same g,by rw[el,t1],by lia,zb,t3,hm,hbr,t2,fun r2 H3 zb3 g3 e3=>?_⟩
  refine⟨r2,_,rfl,?_,?_,?_,g.trans g3⟩
  ·rw[tk];exact e3
  ·intro n hn
   rw[tk] at hn
   exact q0p (zb3 n hn) (by lia)
  ·rw[tk,z1q (by rw[el,t1]),el]
 ·rintro σ H1 ⟨r,s3,rfl,er,zb,el,g⟩
  rw[q0a,hts.1,q0T] at er zb el
  exact⟨_,rfl,q r _ zb el g er⟩
end
section
open Fr Wl Rk Pt
open Builtin.Int (intBits)
variable {P:Program}{w:World}{K:PySem.W.Frag}{mg:Str→Option Value}{base:Heap}{f:Addr}{fd:FuncData}
theorem z9d (pl:Nat):∀(xs:List V) (k:Nat),(((xs.mapIdx fun i x=>(V.int ((i+k:Nat):Int),x)).filter fun c=> !inV c.1 [V.int (pl:Nat)]).map Prod.snd)=if pl<k then xs else xs.eraseIdx (pl - k)
 |[],k=>by split<;>simp
 |x::xs,k=>by
  have e:(x::xs).mapIdx (fun i x=>(V.int ((i+k:Nat):Int),x))=(V.int ((k:Nat):Int),x)::xs.mapIdx fun i x=>(V.int ((i+(k+1):Nat):Int),x):=by
   rw[List.mapIdx_cons]
   congr 1
   ·rw[Nat.zero_add]
   ·congr 1
    funext i y
    rw[show i+1+k=i+(k+1) by lia]
  have hin:inV (V.int ((k:Nat):Int)) [V.int (pl:Nat)]=decide (pl=k):=by
   show ((((pl:Nat):Int)==((k:Nat):Int)) || false)=_
   rw[Bool.or_false,q1r,beq_iff_eq,decide_eq_true_iff]
   lia
  have ih:=z9d pl xs (k+1)
  rw[e,List.filter_cons]
  show List.map Prod.snd (if (!inV (V.int ((k:Nat):Int)) [V.int (pl:Nat)])=true then _ else _)=_
  rw[hin]
  by_cases h:pl=k
  ·subst h
   rw[decide_eq_true rfl]
   rw[if_neg (by decide),ih,if_pos (by lia),if_neg (by lia),q1n,List.eraseIdx_zero,List.tail_cons]
  ·rw[decide_eq_false h,if_pos (by decide),q0u,ih]
   by_cases h2:pl<k
   ·rw[if_pos (by lia),if_pos h2]
   ·rw[if_neg (by lia),if_neg h2,show pl - k=(pl - (k+1))+1 by lia,List.eraseIdx_cons_succ]
abbrev z7K:Stmt:=top 21
theorem sc_drawn:z0q ["rows","numbers","left_out"] ["rows","numbers"] (z0i z7K):=⟨rfl,rfl,rfl,by decide+kernel,rfl,by decide+kernel,by decide+kernel⟩
def z5B (K:PySem.W.Frag):Sp:=fun vs H Q _=>∃(l p a:Addr) (t u:List Int) (B:Nat),vs=[.ref l,.ref p]∧H l=some (.lst [V.ref a])∧SqA K H a (t.map V.int)∧SqA K H p (u.map V.int)∧u.length=t.length∧t.length≤100∧(∃n∈t,n≠0)∧(∀n∈t,intBits n≤B)∧(∀n∈u,intBits n≤B)∧B≤4000∧
 ∀(r:Addr) (H':Hp),H r=none→(∀n∈drR t u,intBits n≤2*B+1)→Same H H'→H' r=some (.lst ((drR t u).map V.int))→Q (.ref r) H'
def z3Y (K:PySem.W.Frag):Sp:=fun vs H Q _=>∃(l p a:Addr) (t u:List Int) (B:Nat),vs=[.ref l,.ref p]∧H l=some (.lst [V.ref a])∧H a=some (.lst (t.map V.int))∧SqA K H p (u.map V.int)∧u.length=t.length∧t.length≤100∧(∃n∈t,n≠0)∧(∀n∈t,intBits n≤B)∧(∀n∈u,intBits n≤B)∧B≤4000∧
 ∀(r:Addr) (H':Hp),H r=none→(∀n∈drR t u,intBits n≤2*B+1)→Same H H'→H' r=some (.lst ((drR t u).map V.int))→Q (.ref r) H'
def z8E (K:PySem.W.Frag):Sp:=fun vs H Q _=>∃(l p a:Addr) (t u:List Int) (B:Nat),vs=[.ref l,.ref p]∧H l=some (.lst [V.ref a])∧H a=some (.tup (t.map V.int))∧SqA K H p (u.map V.int)∧u.length=t.length∧t.length≤100∧(∃n∈t,n≠0)∧(∀n∈t,intBits n≤B)∧(∀n∈u,intBits n≤B)∧B≤4000∧
 ∀(r:Addr) (H':Hp),H r=none→(∀n∈drR t u,intBits n≤2*B+1)→Same H H'→H' r=some (.lst ((drR t u).map V.int))→Q (.ref r) H'
theorem z8h {K:PySem.W.Frag}{vs:List V}{H:Hp}{Q:VK}{E:XK} (h:z3Y K vs H Q E):z5B K vs H Q E:=by
 obtain⟨l,p,a,t,u,B,e,hl,ha,h⟩:=h
 exact⟨l,p,a,t,u,B,e,hl,.inl (SqL.of ha),h⟩
theorem y5C {K:PySem.W.Frag}{vs:List V}{H:Hp}{Q:VK}{E:XK} (h:z8E K vs H Q E):z5B K vs H Q E:=by
 obtain⟨l,p,a,t,u,B,e,hl,ha,h⟩:=h
 exact⟨l,p,a,t,u,B,e,hl,.inr (SqT.of ha),h⟩
theorem y3q (T:Txt mg) (F:Fun K "drawn" "drawn" z7K f fd) (c_first_place:Cal P w K mg base 3 "first_place" ["row"] (z2v K)) (c_rest_by:Cal P w K mg base 3 "rest_by" ["rows","numbers"] (y0x K)):FnOk P w K mg base CX0 4 f fd ["rows","numbers"] (z5B K):=by
 refine F.ok sc_drawn (fun vs H Q E h=>?_) (fun cdv A outer s H vs Q E hr h=>?_)
 ·obtain⟨_,_,_,_,_,_,rfl,_⟩:=h;rfl
 obtain⟨l,p,a,t,u,B,rfl,hl,ha,hX,hul,t100,tnz,zt,zu,b4,q⟩:=h
 refine⟨_,(z0b (z0p (i:=2) sc_drawn.nd rfl (Or.inr rfl) (z0L (Nc:=["row"]) (fr:=[none]) rfl (z0D (K:=K) rfl (pv 0)) rfl (by decide) rfl (by decide) rfl trivial trivial (fun _ _ _ _=>(z0k (i:=0) (show List.Nodup (["row"]:List Str) from by decide) rfl (Or.inl rfl))) (fun _ _ _ _=>z0K) (fun _ _ _ _=>(z0m c_first_place hr rfl (z0a (pv 0) z0c)))))
  (z0e (z0o (z0L (Nc:=["place","number","left_out"]) (fr:=[none,none,some 2]) rfl (z8K (K:=K) rfl rfl T.enumerate (z0a (z0m c_rest_by hr rfl (z0a (pv 0) (z0a (pv 1) z0c))) z0c)) rfl (by decide) rfl (by decide) rfl ⟨rfl,trivial⟩ ⟨⟨rfl,rfl,rfl,rfl⟩,trivial⟩ (fun _ _ _ _=>(z0S (K:=K) rfl 2 rfl (z0u (z0k (i:=0) (show List.Nodup (["place","number","left_out"]:List Str) from by decide) rfl (Or.inl rfl)) (z0u (z0k (i:=1) (show List.Nodup (["place","number","left_out"]:List Str) from by decide) rfl (Or.inl rfl)) z0R)))) (fun _ _ _ _=>(z3t (z0A (y1m (K:=K) rfl) (pv 0) (pv 2) (by with_unfolding_all rfl)))) (fun _ _ _ _=>(pv 1)))))),?_⟩
 refine⟨_,rfl,l,rfl,⟨_,SqL.of hl⟩,fun D hD=>?_⟩
 refine z7i rfl (z0z K l [V.ref a]) hD (fun _=>true) (fun _ x u=>u=V.int (fp t:Nat)) (fun _ _ _ _ _ _ h=>h) (fun H' g'=>SqL.of (g' _ _ hl)) (z0j (by show 1≤_;decide)) ?_ ?_ ?_
 ·intro x hx Hc gc S h
  exact h _ (Same.refl _)
 ·intro x hx _ Hc gc S h
  rw[q0m.mp hx]
  exact⟨_,rfl,a,t,rfl,ha.same gc,by lia,tnz,fun H' g'=>h _ _ g' rfl⟩
 intro xs H1 g1 hD1 he
 have exs:xs=[V.int (fp t:Nat)]:=by
  cases he with
  |cons h1 h2=>cases h2;rw[h1]
 subst exs
 refine⟨_,rfl,_,rfl,l,p,[a],[t],u,B,B,rfl,g1 _ _ hl,⟨rfl,fun i b t' e1 e2=>?_⟩,hX.same g1,by lia,by show 1≤8;decide,fun t' ht'=>?_,zu,by lia,fun i hi=>?_,fun r H2 zb el g2 er=>?_⟩
 ·cases i with
  |zero=>cases e1;cases e2;exact ha.same g1
  |succ i=>simp at e1
 ·rw[q0m.mp ht']
  exact⟨hul.symm,tnz,zt⟩
 ·have:i=0:=by simp at hi;lia
  subst this
  lia
 have er':H2 r=some (.lst ((z0r u t).map V.int)):=er
 have zb':∀n∈z0r u t,intBits n≤2*B+1:=fun n hn=>q0p (zb n hn) (by show B+1*(B+1)≤_;lia)
 have cl:(z0r u t).length =t.length:=by rw[z1q hul,hul]
 have hD2:=g2 _ _ hD1
 refine⟨r,true,_,rfl,SqL.of er',fun D2 hD2'=>?_⟩
 refine z2e rfl (z5d K true r ((z0r u t).map V.int)) hD2' (fun c=> !inV c.1 [V.int (fp t:Nat)]) Prod.snd ?_ (fun H' g'=>SqL.of (g' _ _ er')) (z0j (by unfold z4U;rw[List.length_mapIdx,List.length_map,cl];lia)) ?_ ?_ ?_
 ·intro p u v σ H hp S h
  exact⟨p,_,rfl,SqT.of hp,rfl,_,_,rfl,_,_,rfl,rfl,h⟩
 ·intro c hc Hc gc S h
  have fl:z6k c.1=true:=by
   unfold z4U at hc
   obtain⟨i,hi,rfl⟩:=List.mem_mapIdx.mp hc
   rfl
  exact⟨_,rfl,_,rfl,D,_,rfl,.inl (SqL.of (gc _ _ hD2)),fl,rfl,_,rfl,h⟩
 ·intro c hc _ Hc gc S h
  exact⟨_,rfl,h⟩
 ·intro H' g' hD'
  have em:((z4U ((z0r u t).map V.int)).filter fun c=> !inV c.1 [V.int (fp t:Nat)]).map Prod.snd=(drR t u).map V.int:=by
   have:=z9d (fp t) ((z0r u t).map V.int) 0
   rw[if_neg (by lia),Nat.sub_zero] at this
   unfold z4U drR
   have e2:((z0r u t).map V.int).eraseIdx (fp t)=((z0r u t).eraseIdx (fp t)).map V.int:=by
        rw[List.eraseIdx_eq_take_drop_succ,List.eraseIdx_eq_take_drop_succ,q0x,List.map_take,List.map_drop]
   rw[←e2]
   exact this
  rw[em] at hD'
  exact q D2 _ ((g1.trans g2).free hD2') (fun n hn=>zb' n (List.mem_of_mem_eraseIdx hn)) (g1.trans (g2.trans g')) hD'
end
section
open Fr Wl Rk
open Builtin.Int (intBits)
def y0w (K:PySem.W.Frag):Sp:=fun vs H Q _=>∃(l p:Addr) (as:List Addr) (ts:List (List Int)) (xs:List Int) (bx br:Nat),vs=[.ref l,.ref p]∧H l=some (.lst (as.map V.ref))∧TsA H as ts∧SqA K H p (xs.map V.int)∧xs.length≤1000∧ts.length≤8∧(∀t∈ts,t.length=xs.length∧(∃n∈t,n≠0)∧∀n∈t,intBits n≤br)∧(∀n∈xs,intBits n≤bx)∧br≤9000∧(∀i,i<ts.length→bx+i*(br+1)≤20000)∧
 ∀(r:Addr) (H':Hp),(∀n∈ts.foldl z0r xs,intBits n≤bx+ts.length*(br+1))→(ts.foldl z0r xs).length =xs.length→Same H H'→H' r=some (.lst ((ts.foldl z0r xs).map V.int))→Q (.ref r) H'
theorem y6f {K:PySem.W.Frag}{vs:List V}{H:Hp}{Q:VK}{E:XK} (h:y0w K vs H Q E):y0x K vs H Q E:=by
 obtain⟨l,p,as,ts,xs,bx,br,e,hl,hts,hX,hlen,h8,zt,zx,hbr,hb,q⟩:=h
 exact⟨l,p,as,ts,xs,bx,br,e,hl,⟨hts.1,fun i a t e1 e2=> .inr (SqT.of (hts.2 i a t e1 e2))⟩,hX,hlen,h8,zt,zx,hbr,hb,q⟩
end
end L2
namespace L2
open PySem PySem.Spec PyProof.Rows
section
open Fr Wl Rk Pt Ld
open Builtin.Int (intBits)
variable {P:Program}{w:World}{K:PySem.W.Frag}{mg:Str→Option Value}{base:Heap}{f:Addr}{fd:FuncData}
abbrev z5K:Stmt:=top 25
theorem sc_lowest:z0q ["numbers","shared"] ["numbers"] (z0i z5K):=⟨rfl,rfl,rfl,by decide+kernel,rfl,by decide+kernel,by decide+kernel⟩
def z5y (K:PySem.W.Frag):Sp:=fun vs H Q _=>∃(p:Addr) (rs:List Int),vs=[.ref p]∧H p=some (.lst (rs.map V.int))∧rs.length≤100∧(∃n∈rs,n≠0)∧(∀n∈rs,intBits n≤13000)∧
 ∀(r:Addr) (H':Hp),H r=none→Same H H'→H' r=some (.lst ((z4x rs).map V.int))→Q (.ref r) H'
theorem y1w (T:Txt mg) (F:Fun K "lowest" "lowest" z5K f fd) (c_divisor_of_all:Cal P w K mg base 2 "divisor_of_all" ["numbers"] (z5C K)):FnOk P w K mg base CX0 3 f fd ["numbers"] (z5y K):=by
 refine F.ok sc_lowest (fun vs H Q E h=>?_) (fun cdv A outer s H vs Q E hr h=>?_)
 ·obtain⟨_,_,rfl,_⟩:=h;rfl
 obtain⟨p,rs,rfl,hp,hl,hnz,hb,q⟩:=h
 refine⟨_,(z0b (z0p (i:=1) sc_lowest.nd rfl (Or.inr rfl) (z0m c_divisor_of_all hr rfl (z0a (pv 0) z0c)))
  (z0e (z0o (z0L (Nc:=["number","shared"]) (fr:=[none,some 1]) rfl (z0D (K:=K) rfl (pv 0)) rfl (by decide) rfl (by decide) rfl ⟨rfl,trivial⟩ ⟨⟨rfl,rfl,rfl,rfl⟩,trivial⟩ (fun _ _ _ _=>(z0k (i:=0) (show List.Nodup (["number","shared"]:List Str) from by decide) rfl (Or.inl rfl))) (fun _ _ _ _=>z0K) (fun _ _ _ _=>(z0v z3N (pv 0) (pv 1))))))),?_⟩
 refine⟨_,rfl,p,rs,rfl,.inl (SqL.of hp),by lia,?_⟩
 refine⟨_,rfl,p,rfl,⟨_,SqL.of hp⟩,fun D hD=>?_⟩
 have g0:((z1J rs:Nat):Int)≠0:=by have:=z1W hnz;lia
 refine z1k rfl (z0z K p (rs.map V.int)) hD (fun _=>true) (fun v=>match v with| .int n=> .int (n.fdiv (z1J rs:Int))|u=>u) (fun H' g'=>SqL.of (g' _ _ hp)) (z0j (by rw[q0a];lia)) ?_ ?_ ?_
 ·intro x hx Hc gc S h
  exact h
 ·intro x hx _ Hc gc S h
  obtain⟨n,hn,rfl⟩:=q0g.mp hx
  exact⟨_,rfl,_,rfl,_,_,rfl,rfl,⟨g0,hb n hn⟩,h⟩
 rw[z0C,q0C]
 refine q D _ hD (z0f hD _) ?_
 rw[z0d]
 unfold z4x
 rw[q0C]
 rfl
abbrev z5I:Stmt:=top 26
theorem y0O:z0q ["numbers","sign"] ["numbers","sign"] (z0i z5I):=⟨rfl,rfl,rfl,by decide+kernel,rfl,by decide+kernel,by decide+kernel⟩
def z2g (K:PySem.W.Frag):Sp:=fun vs H Q _=>∃(p:Addr) (rs:List Int) (sg:Int),vs=[.ref p,.int sg]∧SqA K H p (rs.map V.int)∧rs.length≤100∧(sg=1∨sg= -1)∧(∀n∈rs,intBits n≤13000)∧
 ∀(r:Addr) (H':Hp),H r=none→Same H H'→H' r=some (.lst ((z0s sg rs).map V.int))→Q (.ref r) H'
theorem y1u (T:Txt mg) (F:Fun K "turned" "turned" z5I f fd):FnOk P w K mg base CX0 1 f fd ["numbers","sign"] (z2g K):=by
 refine F.ok y0O (fun vs H Q E h=>?_) (fun cdv A outer s H vs Q E hr h=>?_)
 ·obtain⟨_,_,_,rfl,_⟩:=h;rfl
 obtain⟨p,rs,sg,rfl,hp,hl,hsg,hb,q⟩:=h
 obtain⟨b,hB⟩:=hp.toB
 refine⟨_,(z0e (z0o (z0L (Nc:=["number","sign"]) (fr:=[none,some 1]) rfl (z5g (K:=K) rfl (pv 0)) rfl (by decide) rfl (by decide) rfl ⟨rfl,trivial⟩ ⟨⟨rfl,rfl,rfl,rfl⟩,trivial⟩ (fun _ _ _ _=>(z0k (i:=0) (show List.Nodup (["number","sign"]:List Str) from by decide) rfl (Or.inl rfl))) (fun _ _ _ _=>z0K) (fun _ _ _ _=>(z0v z0I (pv 1) (pv 0)))))),?_⟩
 refine⟨_,rfl,p,b,_,rfl,hB,fun D hD=>?_⟩
 have s1:intBits sg≤1:=by rcases hsg with rfl|rfl<;>decide
 refine z1k rfl (z3s K b p (rs.map V.int)) hD (fun _=>true) (fun v=>match v with| .int n=> .int (sg*n)|u=>u) (fun H' g'=>hB.same g') (z0j (by rw[q0a];lia)) ?_ ?_ ?_
 ·intro x hx Hc gc S h
  exact h
 ·intro x hx _ Hc gc S h
  obtain⟨n,hn,rfl⟩:=q0g.mp hx
  exact⟨_,rfl,_,rfl,_,_,rfl,rfl,z1u s1 (hb n hn),h⟩
 rw[z0C,q0C]
 refine q D _ hD (z0f hD _) ?_
 rw[z0d]
 unfold z0s
 rw[q0C]
 rfl
theorem z7t:∀(n:Nat) (a s:List Int),a.length=n→n≤s.length→(List.zipWith (fun x y=>x*y) a s).sum =Ld.sumTo n (fun j=>v a j*v s j)
 |0,a,s,h,_=>by
  rw[q0V.mp h];rfl
 |n+1,a,s,h,hs=>by
  obtain⟨a',x,rfl⟩:∃a' x,a=a'++[x]:=⟨a.dropLast,a.getLast (fun z=>by rw[z] at h;simp at h),(q0y _).symm⟩
  have hl:a'.length=n:=by rw[q0n] at h;simpa using h
  have es:s=s.take n++s.drop n:=(q1A _ _).symm
  have ed:s.drop n=s[n]'(by lia)::s.drop (n+1):=List.drop_eq_getElem_cons (by lia)
  have evs:v s n=s[n]'(by lia):=by
   show s.getD n 0=_
   rw[q0b,q0c (by lia)];rfl
  have eva:v (a'++[x]) n=x:=by
   show (a'++[x]).getD n 0=_
   rw[q0b,q0D (by lia),hl,q1n];rfl
  rw[Ld.sumTo,eva,evs]
  have e1:List.zipWith (fun x y=>x*y) (a'++[x]) s=List.zipWith (fun x y=>x*y) a' (s.take n)++[x*s[n]'(by lia)]:=by
   have e2:List.zipWith (fun x y=>x*y) (a'++[x]) (s.take n++s.drop n)=List.zipWith (fun x y=>x*y) a' (s.take n)++List.zipWith (fun x y=>x*y) [x] (s.drop n):=List.zipWith_append (by rw[q0o];lia)
   rw[q1A,ed] at e2
   rw[e2]
   rfl
  rw[e1,List.sum_append,z7t n a' (s.take n) hl (by rw[q0o];lia)]
  congr 1
  ·refine Ld.sumTo_congr n fun j hj=>?_
   have h1:v (a'++[x]) j=v a' j:=by
    show (a'++[x]).getD j 0=a'.getD j 0
    rw[q0b,q0b,q0L (by lia)]
   have h2:v (s.take n) j=v s j:=by
    show (s.take n).getD j 0=s.getD j 0
    rw[q0b,q0b,q1s hj]
   rw[h1,h2]
  ·simp
abbrev z5Q:Stmt:=top 27
theorem y0Q:z0q ["bound","spot"] ["bound","spot"] (z0i z5Q):=⟨rfl,rfl,rfl,by decide+kernel,rfl,by decide+kernel,by decide+kernel⟩
def z1B (K:PySem.W.Frag):Sp:=fun vs H Q _=>∃(p q:Addr) (a s:List Int) (m:Nat),vs=[.ref p,.ref q]∧H p=some (.lst (a.map V.int))∧H q=some (.lst (s.map V.int))∧a.length=m+1∧s.length=m+1∧m≤50∧(∀n∈a,intBits n≤20000)∧(∀n∈s,intBits n≤20000)∧
 ∀H',Same H H'→Q (.int (hg m (v a) (v s))) H'
theorem y1D (T:Txt mg) (F:Fun K "height" "height" z5Q f fd):FnOk P w K mg base CX0 1 f fd ["bound","spot"] (z1B K):=by
 refine F.ok y0Q (fun vs H Q E h=>?_) (fun cdv A outer s H vs Q E hr h=>?_)
 ·obtain⟨_,_,_,_,_,rfl,_⟩:=h;rfl
 obtain⟨p,q',a,sp,m,rfl,hp,hq,al,sl,m50,ba,bs,q⟩:=h
 refine⟨_,(z0e (z0o (z0v z2p (z0x (z7j (K:=K) rfl rfl) rfl T.sum boot_sum (z0a (z0L (Nc:=["number","top"]) (fr:=[none,none]) rfl (z2A (K:=K) rfl rfl T.zip (z0a (z0Y (z1n (K:=K) rfl) (pv 0) z1t (z1f (z1E z1c z0g))) (z0a (pv 1) z0c))) rfl (by decide) rfl (by decide) rfl trivial trivial (fun _ _ _ _=>(z0S (K:=K) rfl 2 rfl (z0u (z0k (i:=0) (show List.Nodup (["number","top"]:List Str) from by decide) rfl (Or.inl rfl)) (z0u (z0k (i:=1) (show List.Nodup (["number","top"]:List Str) from by decide) rfl (Or.inl rfl)) z0R)))) (fun _ _ _ _=>z0K) (fun _ _ _ _=>(z0v z0I (pv 0) (pv 1)))) z0c)) (z0v z0I (z0G (z0B (K:=K) rfl) (pv 0) (z1E z1c z0g) (fun _ _=>rfl)) (z0G (z0B (K:=K) rfl) (pv 1) (z1E z1c z0g) (fun _ _=>rfl)))))),?_⟩
 obtain⟨a',x,ea⟩:∃a' x,a=a'++[x]:=⟨a.dropLast,a.getLast (fun z=>by rw[z] at al;simp at al),(q0y _).symm⟩
 obtain⟨s',y,es⟩:∃a' x,sp=a'++[x]:=⟨sp.dropLast,sp.getLast (fun z=>by rw[z] at sl;simp at sl),(q0y _).symm⟩
 have a'l:a'.length=m:=by rw[ea,q0n] at al;simpa using al
 have s'l:s'.length=m:=by rw[es,q0n] at sl;simpa using sl
 have hp':H p=some (.lst (a'.map V.int++[V.int x])):=by rw[hp,ea,q0x];rfl
 have hq':H q'=some (.lst (s'.map V.int++[V.int y])):=by rw[hq,es,q0x];rfl
 have bx:intBits x≤20000:=ba x (by rw[ea];simp)
 have by':intBits y≤20000:=bs y (by rw[es];simp)
 refine⟨_,rfl,_,rfl,_,rfl,p,_,rfl,SqL.of hp',fun z hz=>?_⟩
 rw[z1F]
 have g1:=z0f hz (.lst (a'.map V.int))
 have e1:upd H z (.lst (a'.map V.int)) z=some (.lst (a'.map V.int)):=z0d
 generalize upd H z (.lst (a'.map V.int))=H1 at*
 refine⟨_,rfl,z,q',true,true,_,_,rfl,SqL.of e1,SqL.of (g1 _ _ hq),fun D hD=>?_⟩
 refine z2e rfl (z1x K true true z q' (a'.map V.int) (sp.map V.int)) hD (fun _=>true) (fun c=>match c with|(.int m,.int n)=> .int (m*n)|_=> .non) ?_ (fun H' g'=>⟨SqL.of (g' _ _ e1),SqL.of (g' _ _ (g1 _ _ hq))⟩) (z0j (by rw[q0Q,q0a,q0a];lia)) ?_ ?_ ?_
 ·intro p u v σ H hp S h
  exact⟨p,_,rfl,SqT.of hp,rfl,_,_,rfl,_,_,rfl,rfl,h⟩
 ·intro c hc Hc gc S h
  exact h
 ·intro c hc _ Hc gc S h
  obtain⟨c1,c2⟩:=c
  obtain⟨h1,h2⟩:=q1o hc
  obtain⟨m',hm,rfl⟩:=q0g.mp h1
  obtain⟨n',hn,rfl⟩:=q0g.mp h2
  exact⟨_,rfl,_,rfl,_,_,rfl,rfl,z1u (ba m' (by rw[ea];exact q0B _ hm)) (bs n' hn),h⟩
 ·intro H2 g2 hD2
  rw[z0C] at hD2
  have em:((a'.map V.int).zip (sp.map V.int)).map (fun c=>match c with|(.int m,.int n)=>V.int (m*n)|_=> .non)=(List.zipWith (fun a b=>a*b) a' sp).map V.int:=by
   rw[z2f,q0C,List.zip_map,q0C]
   rfl
  rw[em] at hD2
  have g02:=g1.trans g2
  refine⟨D,_,rfl,SqL.of hD2,?_⟩
  refine⟨_,rfl,_,rfl,p,_,_,_,rfl,rfl,SqL.of (g02 _ _ hp'),z2K _ _,_,rfl,_,rfl,q',_,_,_,rfl,rfl,SqL.of (g02 _ _ hq'),z2K _ _,_,_,rfl,rfl,z1u bx by',_,_,rfl,rfl,?_⟩
  have ev:(List.zipWith (fun a b=>a*b) a' sp).sum - x*y=hg m (v a) (v sp):=by
   unfold hg
   rw[z7t m a' sp a'l (by lia)]
   have ex:v a m=x:=by
        show a.getD m 0=x
        rw[ea,q0b,q0D (by lia),a'l,q1n];rfl
   have ey:v sp m=y:=by
        show sp.getD m 0=y
        rw[es,q0b,q0D (by lia),s'l,q1n];rfl
   rw[ex,ey]
   congr 1
   refine Ld.sumTo_congr m fun j hj=>?_
   congr 1
   show a'.getD j 0=a.getD j 0
   rw[ea,q0b,q0b,q0L (by lia)]
  show Q (V.int ((List.zipWith (fun a b=>a*b) a' sp).sum - x*y)) H2
  rw[ev]
  exact q H2 g02
abbrev y0U:Stmt:=top 28
theorem y4M:z0q ["bound"] ["bound"] (z0i y0U):=⟨rfl,rfl,rfl,by decide+kernel,rfl,by decide+kernel,by decide+kernel⟩
def z6B (K:PySem.W.Frag):Sp:=fun vs H Q _=>∃(p:Addr) (b:List Int),vs=[.ref p]∧H p=some (.lst (b.map V.int))∧b.length≤100∧(∃n∈b,n≠0)∧∀H',Same H H'→Q (.int (ldL b)) H'
theorem y5h (T:Txt mg) (F:Fun K "lead" "lead" y0U f fd) (c_first_place:Cal P w K mg base 1 "first_place" ["row"] (z2v K)):FnOk P w K mg base CX0 2 f fd ["bound"] (z6B K):=by
 refine F.ok y4M (fun vs H Q E h=>?_) (fun cdv A outer s H vs Q E hr h=>?_)
 ·obtain⟨_,_,rfl,_⟩:=h;rfl
 obtain⟨p,b,rfl,hp,bl,hnz,q⟩:=h
 refine⟨_,(z0e (z0o (z3M (z0A y1o (z0G (z0B (K:=K) rfl) (pv 0) (z0m c_first_place hr rfl (z0a (pv 0) z0c)) (fun _ _=>rfl)) z0g (z0F _)) z0g (z1E z1c z0g)))),?_⟩
 have hlt:=y3F hnz
 refine⟨_,rfl,_,rfl,p,b,rfl,.inl (SqL.of hp),by lia,hnz,fun H' g'=>?_⟩
 refine⟨p,_,_,_,rfl,rfl,SqL.of (g' _ _ hp),y4t hlt,_,_,rfl,rfl,_,rfl,?_⟩
 refine z3i (fun c=>?_) (fun c=>?_)
 ·have c':0<v b (fp b):=of_decide_eq_true c
  have:ldL b=1:=by unfold ldL;rw[if_pos c']
  have:=q H' g'
  rw[‹ldL b=1›] at this
  exact this
 ·have c':¬0<v b (fp b):=fun z=>c (decide_eq_true z)
  have e:ldL b= -1:=by unfold ldL;rw[if_neg c']
  have:=q H' g'
  rw[e] at this
  exact⟨_,rfl,this⟩
end
end L2
namespace L2
open PySem PySem.Spec PyProof.Rows
section
open Fr Wl Rk Pt Ld
open Builtin.Int (intBits)
variable {P:Program}{w:World}{K:PySem.W.Frag}{mg:Str→Option Value}{base:Heap}{f:Addr}{fd:FuncData}
theorem z0t {n:Int}{a b:Nat} (h:intBits n≤a) (hab:a≤b):intBits n≤b:=q0p h hab
theorem z8s {B:Nat}{f:Nat→Int}:∀n,(∀j,j<n→intBits (f j)≤B)→intBits (Ld.sumTo n f)≤B+n
 |0,_=>Nat.le_trans (show intBits 0≤0 by decide) (Nat.zero_le _)
 |n+1,h=>by
  have h1:=z8s n fun j hj=>h j (by lia)
  have h2:=z0t (h n (by lia)) (show B≤B+n by lia)
  rw[Ld.sumTo]
  exact z0t (intBits_add_le h1 h2) (by lia)
theorem y2a {m b c S:Nat}{a s:Nat→Int} (ha:∀j,j<m→intBits (a j)≤b) (hc:intBits (a m)≤c) (hs:∀j,j≤m→intBits (s j)≤S):intBits (hg m a s)≤max b c+S+m+1:=by
 unfold hg
 have h1:intBits (Ld.sumTo m fun j=>a j*s j)≤max b c+S+m:=z8s m fun j hj=>z0t (intBits_mul_le (ha j hj) (hs j (by lia))) (by lia)
 have h2:intBits (a m*s m)≤max b c+S+m:=z0t (intBits_mul_le hc (hs m (q0j _))) (by lia)
 exact z0t (intBits_sub_le h1 h2) (by lia)
structure Bd (m b c:Nat) (r:List Int):Prop where
 len:r.length=m+1
 way:∀j,j<m→intBits (v r j)≤b
 lst:intBits (v r m)≤c
theorem y1G {r:List Int}{n:Int} (h:n∈r):∃j,j<r.length∧v r j=n:=by
 obtain⟨j,hj,e⟩:=q0I.mp h
 refine⟨j,hj,?_⟩
 show r.getD j 0=n
 rw[q0b,q0c hj,e];rfl
theorem Bd.all {m b c:Nat}{r:List Int} (h:Bd m b c r):∀n∈r,intBits n≤max b c:=fun n hn=>by
 obtain⟨j,hj,rfl⟩:=y1G hn
 rw[h.len] at hj
 by_cases c':j<m
 ·exact z0t (h.way j c') (by lia)
 ·rw[show j=m by lia];exact z0t h.lst (by lia)
theorem z5E {sg n:Int} (h:sg=1∨sg= -1) {k:Nat} (hn:intBits n≤k):intBits (sg*n)≤k:=by
 refine intBits_le_of_natAbs (y:=n) ?_ hn
 rcases h with rfl|rfl<;>lia
theorem Bd.turn {m b c:Nat}{r:List Int} (h:Bd m b c r) {sg:Int} (hs:sg=1∨sg= -1):Bd m b c (z0s sg r):=
 ⟨by rw[z2F,h.len],fun j hj=>by rw[z1A];exact z5E hs (h.way j hj),by rw[z1A];exact z5E hs h.lst⟩
theorem Bd.draw {m b c:Nat}{t u:List Int} (ht:Bd (m+1) b c t) (hu:Bd (m+1) b c u) (hp:fp t≤m) (hn:∃n∈t,n≠0):Bd m (2*b+1) (b+c+1) (drR t u):=by
 have hl:u.length=t.length:=by rw[ht.len,hu.len]
 have g0:=z7d (b:=v u (fp t)) (z2d hn)
 have ob:intBits (z4M u t)≤b:=intBits_le_of_natAbs (z1Z (q1j ..) g0) (ht.way _ (by lia))
 have lb:intBits (z2c u t)≤b:=intBits_le_of_natAbs (z1Z (q1I ..) g0) (hu.way _ (by lia))
 have e:∀j,v (drR t u) j=z4M u t*v u (skp (fp t) j) - z2c u t*v t (skp (fp t) j):=fun j=>by
  unfold drR
  rw[z2u,z1Q hl]
 refine⟨by have:=z2C hl hn;rw[ht.len] at this;lia,fun j hj=>?_,?_⟩
 ·have hs:skp (fp t) j<m+1:=by unfold skp;split<;>lia
  rw[e]
  exact z0t (intBits_sub_le (intBits_mul_le ob (hu.way _ hs)) (intBits_mul_le lb (ht.way _ hs))) (by lia)
 ·have hs:skp (fp t) m=m+1:=by unfold skp;rw[if_neg (by lia)]
  rw[e,hs]
  exact z0t (intBits_sub_le (intBits_mul_le ob hu.lst) (intBits_mul_le lb ht.lst)) (by lia)
theorem z6b {s:List Int}{k:Nat} (hn:∃n∈s,n≠0) (h:∀n∈s,intBits n≤k):∀n∈z4x s,intBits n≤k:=fun n hn'=>by
 unfold z4x at hn'
 obtain⟨x,hx,rfl⟩:=q0g.mp hn'
 exact intBits_le_of_natAbs (z1Z ((z3Q s 0).2 x hx) (by have:=z1W hn;lia)) (h x hx)
theorem z9a {pl k:Nat}{s:List Int} (h:∀n∈s,intBits n≤k):∀n∈z2I pl 0 s,intBits n≤k:=fun n hn=>by
 unfold z2I at hn
 rcases q0H.mp hn with hn|hn
 ·exact h n (q1t hn)
 ·rcases q0r.mp hn with rfl|hn
  ·exact q0p (show intBits 0≤0 by decide) (q0S _)
  ·exact h n (List.mem_of_mem_drop hn)
theorem z7w {m b c S:Nat}{t f:List Int} (ht:Bd (m+1) b c t) (hp:fp t≤m) (hf:f.length=m+1) (hb:∀n∈f,intBits n≤S):∀n∈upL (m+1) t f,intBits n≤max b c+S+m+3:=fun n hn=>by
 unfold upL at hn
 have hi:=z9a (pl:=fp t) hb
 rcases List.mem_or_eq_of_mem_set hn with hn|rfl
 ·obtain⟨x,hx,rfl⟩:=q0g.mp hn
  exact z0t (intBits_mul_le (ht.way _ (by lia)) (hi x hx)) (by lia)
 ·have:=y2a (s:=v (z2I (fp t) 0 f)) ht.way ht.lst (S:=S) fun j _=>z1d hi j
  exact z0t (intBits_sub_le (x:=0) (show intBits 0≤0 by decide) this) (by lia)
abbrev z5L:Stmt:=top 29
theorem sc_lifted:z0q ["rows","spot","known","row","place","missing"] ["rows","spot"] (z0i z5L):=⟨rfl,rfl,rfl,by decide+kernel,rfl,by decide+kernel,by decide+kernel⟩
def z2Z (K:PySem.W.Frag):Sp:=fun vs H Q _=>∃(l q a:Addr) (t fs:List Int) (m b c S:Nat),vs=[.ref l,.ref q]∧H l=some (.lst [V.ref a])∧H a=some (.lst (t.map V.int))∧H q=some (.lst (fs.map V.int))∧Bd (m+1) b c t∧fp t≤m∧0<v t (fp t)∧fs.length=m+1∧(∃j,v fs j≠0)∧(∀n∈fs,intBits n≤S)∧b≤2000∧c≤2000∧S≤6000∧m≤5∧
 ∀(r:Addr) (H':Hp),H r=none→Same H H'→H' r=some (.lst ((z4x (upL (m+1) t fs)).map V.int))→Q (.ref r) H'
theorem y1x (T:Txt mg) (F:Fun K "lifted" "lifted" z5L f fd) (c_first_place:Cal P w K mg base 3 "first_place" ["row"] (z2v K)) (c_height:Cal P w K mg base 3 "height" ["bound","spot"] (z1B K)) (c_lowest:Cal P w K mg base 3 "lowest" ["numbers"] (z5y K)):FnOk P w K mg base CX0 4 f fd ["rows","spot"] (z2Z K):=by
 refine F.ok sc_lifted (fun vs H Q E h=>?_) (fun cdv A outer s H vs Q E hr h=>?_)
 ·obtain⟨_,_,_,_,_,_,_,_,_,rfl,_⟩:=h;rfl
 obtain⟨l,q',a,t,fs,m,b,c,S,rfl,hl,ha,hq,hB,hp,hpos,fl,fpos,fb,b2,c2,s6,m5,q⟩:=h
 refine⟨_,(z0b (z0p (i:=2) sc_lifted.nd rfl (Or.inl rfl) (z1i (z2J (K:=K) rfl) rfl T.list boot_list (z0a (pv 1) z0c)))
  (z0b (z0T PassesOwn.never rfl (z0D (K:=K) rfl (pv 0)) (z0k (i:=3) sc_lifted.nd rfl (Or.inr rfl)) (z0e (z1o (z4q PySem.F.plainAttrs_list PySem.F.slot_list_insert PySem.F.type_list_insert y1F (pv 2) (z0a (z0m c_first_place hr rfl (z0a (pv 3) z0c)) (z0a z0g z0c))))))
  (z0b (z0T PassesOwn.never rfl (z0D (K:=K) rfl (pv 0)) (z0k (i:=3) sc_lifted.nd rfl (Or.inr rfl)) (z0b (z0p (i:=4) sc_lifted.nd rfl (Or.inr rfl) (z0m c_first_place hr rfl (z0a (pv 3) z0c)))
  (z0b (z0p (i:=5) sc_lifted.nd rfl (Or.inl rfl) (z0v z2p z0g (z0m c_height hr rfl (z0a (pv 3) (z0a (pv 2) z0c)))))
  (z0b (z3u (jj:=2) rfl sc_lifted.nd rfl (Or.inl rfl) (Or.inl rfl) (Nc:=["number","row","place"]) (fr:=[none,some 3,some 4]) rfl (z0D (K:=K) rfl (pv 2)) rfl (by decide) rfl (by decide) rfl ⟨rfl,⟨rfl,trivial⟩⟩ ⟨⟨rfl,rfl,rfl,rfl⟩,⟨⟨rfl,rfl,rfl,rfl⟩,trivial⟩⟩ (fun _ _ _ _=>(z0k (i:=0) (show List.Nodup (["number","row","place"]:List Str) from by decide) rfl (Or.inl rfl))) (fun _ _ _ _=>z0K) (fun _ _ _ _=>(z0v z0I (z0G (z0B (K:=K) rfl) (pv 1) (pv 2) (fun _ _=>rfl)) (pv 0))))
  (z0e (y1e (pv 5) (y1h (pv 2) (pv 4) z5G)))))))
  (z0e (z0o (z0m c_lowest hr rfl (z0a (pv 2) z0c))))))),?_⟩
 have tl:=hB.len
 have tnz:∃n∈t,n≠0:=z1Y (j:=fp t) (by lia)
 have tb:=hB.all
 have il:(z2I (fp t) 0 fs).length =m+2:=by have:=z8V (pl:=fp t) (y:=fs) (by lia);show (lf (fp t) fs).length =_;lia
 have ib:=z9a (pl:=fp t) fb
 refine z0w (fun σ H'=>∃r,H r=none∧σ=[some (.ref l),some (.ref q'),some (.ref r),none,none,none]∧Same H H'∧H' r=some (.lst (fs.map V.int))) (fun N hN=>?_) ?_
 ·exact⟨_,rfl,q',_,rfl,.inl (SqL.of hq),fun r hr=>hN _ _ ⟨r,hr,rfl,z0f hr _,z0d⟩⟩
 rintro σ H0 ⟨r,hr0,rfl,g0,e0⟩
 refine z0w (fun σ H'=>∃s3,σ=[some (.ref l),some (.ref q'),some (.ref r),s3,none,none]∧Same H H'∧H' r=some (.lst ((z2I (fp t) 0 fs).map V.int))) (fun N hN=>?_) ?_
 ·refine⟨_,rfl,l,rfl,⟨_,SqL.of (g0 _ _ hl)⟩,?_⟩
  refine z0E (z0z K l [V.ref a]) (fun i σ H'=>∃s3,σ=[some (.ref l),some (.ref q'),some (.ref r),s3,none,none]∧Same H H'∧H' r=some (.lst ((if i=0 then fs else z2I (fp t) 0 fs).map V.int))) ⟨_,rfl,g0,e0⟩ (fun i σ H' _ h=>by obtain⟨_,_,g,_⟩:=h;exact SqL.of (g _ _ hl)) ?_ ?_
  ·rintro i x σ H1 H2 hi ⟨s3,rfl,g,er⟩ ⟨rfl,hx⟩
   have i0:i=0:=by simp at hi;lia
   subst i0
   rw[if_pos rfl] at er
   have ex:x= .ref a:=(Option.some.inj hx).symm
   subst ex
   refine⟨_,rfl,.inl ⟨rfl,_,SqL.of er⟩,_,rfl,a,t,rfl,.inl (SqL.of (g _ _ ha)),by lia,tnz,fun H3 g3=>?_⟩
   refine⟨r,_,_,_,rfl,rfl,g3 _ _ er,by lia,by rw[q0a];lia,z2n (by rw[q0a];lia),?_⟩
   refine⟨_,rfl,fun b' o e=>by rw[z0l (z0h e hr0)];exact (g.trans g3) _ _ e,?_⟩
   rw[z0d,if_neg (by lia),q0J]
   unfold z2I
   rw[q0x,q0u,List.map_take,List.map_drop]
  ·rintro σ H1 ⟨s3,rfl,g,er⟩
   exact hN _ _ ⟨_,rfl,g,er⟩
 clear g0 e0
 rintro σ H0 ⟨s3,rfl,g0,e0⟩
 refine z0w (fun σ H'=>∃r s3 s4 s5,H r=none∧σ=[some (.ref l),some (.ref q'),some (.ref r),s3,s4,s5]∧Same H H'∧H' r=some (.lst ((upL (m+1) t fs).map V.int))) (fun N hN=>?_) ?_
 ·refine⟨_,rfl,l,rfl,⟨_,SqL.of (g0 _ _ hl)⟩,?_⟩
  refine z0E (z0z K l [V.ref a]) (fun i σ H'=>∃r s3 s4 s5,H r=none∧σ=[some (.ref l),some (.ref q'),some (.ref r),s3,s4,s5]∧Same H H'∧H' r=some (.lst ((if i=0 then z2I (fp t) 0 fs else upL (m+1) t fs).map V.int))) ⟨_,_,_,_,hr0,rfl,g0,e0⟩ (fun i σ H' _ h=>by obtain⟨_,_,_,_,_,_,g,_⟩:=h;exact SqL.of (g _ _ hl)) ?_ ?_
  ·clear g0 e0 hr0
   rintro i x σ H1 H2 hi ⟨r,s3,s4,s5,hr0,rfl,g,er⟩ ⟨rfl,hx⟩
   have i0:i=0:=by simp at hi;lia
   subst i0
   rw[if_pos rfl] at er
   have ex:x= .ref a:=(Option.some.inj hx).symm
   subst ex
   refine⟨_,rfl,a,t,rfl,.inl (SqL.of (g _ _ ha)),by lia,tnz,fun H3 g3=>?_⟩
   refine⟨_,rfl,_,rfl,a,r,t,z2I (fp t) 0 fs,m+1,rfl,(g.trans g3) _ _ ha,g3 _ _ er,tl,il,by lia,fun n hn=>z0t (tb n hn) (by lia),fun n hn=>z0t (ib n hn) (by lia),fun H4 g4=>?_⟩
   refine⟨_,_,rfl,rfl,?_⟩
   have g34:=g3.trans g4
   have er4:=g34 _ _ er
   have ha4:=(g.trans g34) _ _ ha
   refine⟨_,rfl,r,rfl,⟨_,SqL.of er4⟩,fun D hD=>?_⟩
   refine z1k rfl (z0z K r ((z2I (fp t) 0 fs).map V.int)) hD (fun _=>true) (fun x=>match x with| .int n=> .int (v t (fp t)*n)|u=>u) (fun H' g'=>SqL.of (g' _ _ er4)) (z0j (by rw[q0a];lia)) ?_ ?_ ?_
   ·intro x hx Hc gc S h
    exact h
   ·intro x hx _ Hc gc S h
    obtain⟨n,hn,rfl⟩:=q0g.mp hx
    exact⟨_,rfl,_,rfl,a,_,_,_,rfl,rfl,SqL.of (gc _ _ ha4),y4t (by lia),_,rfl,_,_,rfl,rfl,z1u (z0t (z1d tb (fp t)) (show _≤2000 by lia)) (ib n hn),h⟩
   rw[z0C,q0C]
   have em:(z2I (fp t) 0 fs).map ((fun x=>match x with| .int n=>V.int (v t (fp t)*n)|u=>u)∘V.int)=((z2I (fp t) 0 fs).map fun n=>v t (fp t)*n).map V.int:=by rw[q0C];rfl
   rw[em]
   have g5:=z0f hD (.lst (((z2I (fp t) 0 fs).map fun n=>v t (fp t)*n).map V.int))
   have e5:upd H4 D (.lst (((z2I (fp t) 0 fs).map fun n=>v t (fp t)*n).map V.int)) D=some (.lst (((z2I (fp t) 0 fs).map fun n=>v t (fp t)*n).map V.int)):=z0d
   generalize upd H4 D (.lst (((z2I (fp t) 0 fs).map fun n=>v t (fp t)*n).map V.int))=H5 at*
   refine⟨_,rfl,_,rfl,_,rfl,D,_,_,fp t,rfl,rfl,e5,z8d (by rw[q0a,q0a,il];lia),?_⟩
   have hD0:=(g.trans g34).free hD
   refine⟨D,_,_,_,hD0,rfl,fun b' o e=>by rw[z0l (z0h e hD0)];exact ((g.trans g34).trans g5) _ _ e,?_⟩
   rw[z0d,if_neg (by lia)]
   unfold upL
   rw[List.map_set]
  ·rintro σ H1 ⟨r,s3,s4,s5,hr0,rfl,g,er⟩
   exact hN _ _ ⟨r,_,_,_,hr0,rfl,g,er⟩
 clear g0 e0
 rintro σ H1 ⟨r,s3,s4,s5,hr1,rfl,g1,e1⟩
 have ul:=y0p (t:=t) fl hp
 have unz:∃n∈upL (m+1) t fs,n≠0:=by
  obtain⟨j,hj⟩:=fpos
  refine z1Y (j:=skp (fp t) j) ?_
  rw[z3A fl hp]
  exact q0X (by lia) hj
 exact⟨_,rfl,r,_,rfl,e1,by lia,unz,fun n hn=>z0t (z7w hB hp fl fb n hn) (by lia),fun r2 H2 hr2 g2 e2=>q r2 H2 (g1.free hr2) (g1.trans g2) e2⟩
end
end L2
namespace L2
open PySem PySem.Spec PyProof.Rows
section
open Fr Wl Rk Pt Ld
open Builtin.Int (intBits)
variable {P:Program}{w:World}{K:PySem.W.Frag}{mg:Str→Option Value}{base:Heap}{f:Addr}{fd:FuncData}
theorem z6q {m p b L:Nat}{s:List Int} (hs:0<v s m) (sb:intBits (v s m)≤L):∀(bs:List (List Int)) (z:Int),(∀r∈bs,intBits (v r p)≤b∧0<hg m (v r) (v s))→1≤z→intBits z≤b+L+1→intBits (bs.foldl (fun z r=>max z (((v r p).natAbs :Int)*v s m/hg m (v r) (v s)+1)) z)≤b+L+1
 |[],z,_,_,hz=>hz
 |r::bs,z,h,z1,hz=>by
  rw[q1G]
  obtain⟨h1,h2⟩:=h r q0k
  have hm:intBits (((v r p).natAbs :Int)*v s m)≤b+L:=intBits_mul_le (intBits_le_of_natAbs (y:=v r p) (by lia) h1) sb
  have n0:0≤((v r p).natAbs :Int)*v s m:=q0U (Int.natCast_nonneg _) (q1h hs)
  have hd:0≤((v r p).natAbs :Int)*v s m/hg m (v r) (v s):=Int.ediv_nonneg n0 (q1h h2)
  have hle:((v r p).natAbs :Int)*v s m/hg m (v r) (v s)≤((v r p).natAbs :Int)*v s m:=Int.ediv_le_self _ n0
  have hq:intBits (((v r p).natAbs :Int)*v s m/hg m (v r) (v s))≤b+L:=intBits_le_of_natAbs (by lia) hm
  have hq1:intBits (((v r p).natAbs :Int)*v s m/hg m (v r) (v s)+1)≤b+L+1:=by
   refine intBits_le_iff.mpr ?_
   have:=intBits_le_iff.mp hq
   rw[Nat.pow_succ]
   generalize ((v r p).natAbs :Int)*v s m/hg m (v r) (v s)=y at*
   lia
  refine z6q hs sb bs _ (fun r' hr'=>h r' (q0f _ hr')) (by lia) ?_
  generalize ((v r p).natAbs :Int)*v s m/hg m (v r) (v s)+1=y at*
  rcases (by lia:max z y=z∨max z y=y) with e|e
  ·rw[e];exact hz
  ·rw[e];exact hq1
theorem z8t {m p b L:Nat}{sg:Int}{s:List Int}{bs:List (List Int)} (hsg:sg=1∨sg= -1) (hl:s.length=m+1) (hp:p<m) (hs:0<v s m) (sb:∀n∈s,intBits n≤L) (hb:∀r∈bs,intBits (v r p)≤b∧0<hg m (v r) (v s)):∀n∈z7r m p sg s bs,intBits n≤b+2*L+2:=fun n hn=>by
 have hbt:intBits (z3S m p s bs)≤b+L+1:=z6q hs (z1d sb m) bs 1 hb (by decide) (by
  refine q0p (show intBits 1≤1 by decide) (by lia))
 obtain⟨j,_,rfl⟩:=y1G hn
 rw[y0s (by lia)]
 by_cases c:j=p
 ·rw[if_pos c]
  exact z0t (intBits_add_le (intBits_mul_le hbt (z1d sb j)) (z5E hsg (z1d sb m))) (by lia)
 ·rw[if_neg c,q1k]
  exact z0t (intBits_mul_le hbt (z1d sb j)) (by lia)
theorem y2A (i:Int):(if i<0 then -i else i)=(i.natAbs:Int):=by split<;>lia
theorem y6E (i j:Int):(if j>i then j else i)=max i j:=by split<;>lia
abbrev z4b:Stmt:=top 30
theorem sc_stepped:z0q ["bounds","spot","place","sign","bottom","bound","moved"] ["bounds","spot","place","sign"] (z0i z4b):=⟨rfl,rfl,rfl,by decide+kernel,rfl,by decide+kernel,by decide+kernel⟩
def z3X (K:PySem.W.Frag):Sp:=fun vs H Q _=>∃(lb q:Addr) (as:List Addr) (bs:List (List Int)) (s:List Int) (p:Nat) (sg:Int) (m b c L:Nat),vs=[.ref lb,.ref q,.int (p:Nat),.int sg]∧H lb=some (.lst (as.map V.ref))∧LsA H as bs∧H q=some (.lst (s.map V.int))∧(∀r∈bs,Bd m b c r)∧Win m bs s∧p<m∧(sg=1∨sg= -1)∧(∀n∈s,intBits n≤L)∧b≤2000∧c≤2000∧b+2*L+4≤13000∧m≤6∧bs.length≤100∧
 ∀(r:Addr) (H':Hp),H r=none→Same H H'→H' r=some (.lst ((z4x (z7r m p sg s bs)).map V.int))→Q (.ref r) H'
theorem z9A (T:Txt mg) (F:Fun K "stepped" "stepped" z4b f fd) (c_height:Cal P w K mg base 3 "height" ["bound","spot"] (z1B K)) (c_lowest:Cal P w K mg base 3 "lowest" ["numbers"] (z5y K)):FnOk P w K mg base CX0 4 f fd ["bounds","spot","place","sign"] (z3X K):=by
 refine F.ok sc_stepped (fun vs H Q E h=>?_) (fun cdv A outer s H vs Q E hr h=>?_)
 ·obtain⟨_,_,_,_,_,_,_,_,_,_,_,rfl,_⟩:=h;rfl
 obtain⟨lb,q',as,bs,sp,p,sg,m,b,c,L,rfl,hlb,hls,hq,hB,hW,pm,hsg,sb,b2,c2,hL,m6,n100,q⟩:=h
 refine⟨_,(z0b (z0p (i:=4) sc_stepped.nd rfl (Or.inr rfl) z0g)
  (z0b (z0T PassesOwn.never rfl (z0D (K:=K) rfl (pv 0)) (z0k (i:=5) sc_stepped.nd rfl (Or.inl rfl)) (z0e (z0p (i:=4) sc_stepped.nd rfl (Or.inr rfl) (z0x (y2v rfl) rfl T.max boot_max (z0a (pv 4) (z0a (z0v z1s (z0v z3N (z0v z0I (z0x z3R rfl T.abs boot_abs (z0a (z0G (z0B (K:=K) rfl) (pv 5) (pv 2) (fun _ _=>rfl)) z0c)) (z0G (z0B (K:=K) rfl) (pv 1) (z1E z1c z0g) (fun _ _=>rfl))) (z0m c_height hr rfl (z0a (pv 5) (z0a (pv 1) z0c)))) z0g) z0c))))))
  (z0b (z3u (jj:=6) rfl sc_stepped.nd rfl (Or.inl rfl) (Or.inl rfl) (Nc:=["number","bottom"]) (fr:=[none,some 4]) rfl (z0D (K:=K) rfl (pv 1)) rfl (by decide) rfl (by decide) rfl ⟨rfl,trivial⟩ ⟨⟨rfl,rfl,rfl,rfl⟩,trivial⟩ (fun _ _ _ _=>(z0k (i:=0) (show List.Nodup (["number","bottom"]:List Str) from by decide) rfl (Or.inl rfl))) (fun _ _ _ _=>z0K) (fun _ _ _ _=>(z0v z0I (pv 1) (pv 0))))
  (z0b (y1e (z0v z1s (z0G (z0B (K:=K) rfl) (pv 6) (pv 2) (fun _ _=>rfl)) (z0v z0I (pv 3) (z0G (z0B (K:=K) rfl) (pv 1) (z1E z1c z0g) (fun _ _=>rfl)))) (y1h (pv 6) (pv 2) z5G))
  (z0e (z0o (z0m c_lowest hr rfl (z0a (pv 6) z0c)))))))),?_⟩
 have sl:=hW.1.1
 have spos:=hW.1.2
 obtain⟨s',y,es⟩:∃a' x,sp=a'++[x]:=⟨sp.dropLast,sp.getLast (fun z=>by rw[z] at sl;simp at sl),(q0y _).symm⟩
 have s'l:s'.length=m:=by rw[es,q0n] at sl;simpa using sl
 have ey:y=v sp m:=by
  show y=sp.getD m 0
  rw[es,q0b,q0D (by lia),s'l,q1n];rfl
 have hq':H q'=some (.lst (s'.map V.int++[V.int (v sp m)])):=by rw[hq,←ey,es,q0x];rfl
 refine z0w (fun σ H'=>σ=[some (.ref lb),some (.ref q'),some (.int (p:Nat)),some (.int sg),some (.int 1),none,none]∧H=H') (fun N hN=>?_) ?_
 ·exact hN _ _ ⟨rfl,rfl⟩
 rintro σ H0 ⟨rfl,rfl⟩
 refine z0w (fun σ H'=>∃s5,σ=[some (.ref lb),some (.ref q'),some (.int (p:Nat)),some (.int sg),some (.int (z3S m p sp bs)),s5,none]∧Same H H') (fun N hN=>?_) ?_
 ·refine⟨_,rfl,lb,rfl,⟨_,SqL.of hlb⟩,?_⟩
  refine z0E (z0z K lb (as.map V.ref)) (fun i σ H'=>∃s5,σ=[some (.ref lb),some (.ref q'),some (.int (p:Nat)),some (.int sg),some (.int (z3S m p sp (bs.take i))),s5,none]∧Same H H') ⟨_,rfl,Same.refl _⟩ (fun i σ H' _ h=>by obtain⟨_,_,g⟩:=h;exact SqL.of (g _ _ hlb)) ?_ ?_
  ·rintro i x σ H1 H2 hi ⟨s5,rfl,g⟩ ⟨rfl,hx⟩
   rw[q0a,hls.1] at hi
   rw[q0h] at hx
   obtain⟨a,ha,rfl⟩:=q0v.mp hx
   have et:bs[i]? =some bs[i]:=q0c hi
   have hum:bs[i]∈bs:=q0A hi
   have tk:bs.take (i+1)=bs.take i++[bs[i]]:=by rw[q0R,et];rfl
   generalize bs[i]=u at et hum tk
   have hu:=hB u hum
   have hau:=g _ _ (hls.2 i a u ha et)
   have hh:=hW.2 u hum
   have ub:=hu.all
   have hub:intBits (if v u p<0 then -v u p else v u p)≤b:=by rw[y2A];exact intBits_le_of_natAbs (y:=v u p) (by lia) (hu.way p pm)
   refine⟨_,rfl,_,rfl,_,rfl,a,_,_,_,rfl,rfl,SqL.of hau,y4t (by rw[hu.len];lia),_,rfl,_,rfl,_,rfl,q',_,_,_,rfl,rfl,SqL.of (g _ _ hq'),z2K _ _,_,_,rfl,rfl,z1u hub (z1d sb m),?_⟩
   refine⟨_,rfl,_,rfl,a,q',u,sp,m,rfl,hau,g _ _ hq,hu.len,sl,by lia,fun n hn=>z0t (ub n hn) (by lia),fun n hn=>z0t (sb n hn) (by lia),fun H3 g3=>?_⟩
   refine⟨_,_,rfl,rfl,⟨by lia,z0t (intBits_mul_le hub (z1d sb m)) (by lia)⟩,_,_,rfl,rfl,_,_,rfl,?_⟩
   have eb:(if ((if v u p<0 then -v u p else v u p)*v sp m).fdiv (hg m (v u) (v sp))+1>z3S m p sp (bs.take i) then ((if v u p<0 then -v u p else v u p)*v sp m).fdiv (hg m (v u) (v sp))+1 else z3S m p sp (bs.take i))=z3S m p sp (bs.take (i+1)):=by
        rw[tk,y2A,Int.fdiv_eq_ediv_of_nonneg _ (q1h hh),y6E]
        unfold z3S
        rw[List.foldl_append]
        rfl
   refine⟨some (.ref a),?_,g.trans g3⟩
   rw[eb]
   rfl
  ·rintro σ H1 ⟨s5,rfl,g⟩
   rw[q0a,hls.1,q0T]
   exact hN _ _ ⟨_,rfl,g⟩
 rintro σ H1 ⟨s5,rfl,g1⟩
 have hbb:∀r∈bs,intBits (v r p)≤b∧0<hg m (v r) (v sp):=fun r hr=>⟨(hB r hr).way p pm,hW.2 r hr⟩
 have hbt:intBits (z3S m p sp bs)≤b+L+1:=z6q spos (z1d sb m) bs 1 hbb (by decide) (q0p (show intBits 1≤1 by decide) (by lia))
 have hq1:=g1 _ _ hq
 refine z0w (fun σ H'=>∃D s5,H1 D=none∧σ=[some (.ref lb),some (.ref q'),some (.int (p:Nat)),some (.int sg),some (.int (z3S m p sp bs)),s5,some (.ref D)]∧Same H1 H'∧H' D=some (.lst ((sp.map fun n=>z3S m p sp bs*n).map V.int))) (fun N hN=>?_) ?_
 ·refine⟨_,rfl,q',rfl,⟨_,SqL.of hq1⟩,fun D hD=>?_⟩
  refine z1k rfl (z0z K q' (sp.map V.int)) hD (fun _=>true) (fun x=>match x with| .int n=> .int (z3S m p sp bs*n)|u=>u) (fun H' g'=>SqL.of (g' _ _ hq1)) (z0j (by rw[q0a];lia)) ?_ ?_ ?_
  ·intro x hx Hc gc S h
   exact h
  ·intro x hx _ Hc gc S h
   obtain⟨n,hn,rfl⟩:=q0g.mp hx
   exact⟨_,rfl,_,rfl,_,_,rfl,rfl,z1u hbt (sb n hn),h⟩
  rw[z0C,q0C]
  refine hN _ _ ⟨D,_,hD,rfl,z0f hD _,?_⟩
  rw[z0d,q0C];rfl
 rintro σ H2 ⟨D,s5,hD1,rfl,g2,eD⟩
 have g12:=g1.trans g2
 have hDn:=g1.free hD1
 refine z0w (fun σ H'=>σ=[some (.ref lb),some (.ref q'),some (.int (p:Nat)),some (.int sg),some (.int (z3S m p sp bs)),s5,some (.ref D)]∧Same H H'∧H' D=some (.lst ((z7r m p sg sp bs).map V.int))) (fun N hN=>?_) ?_
 ·have hat:atI ((sp.map fun n=>z3S m p sp bs*n).map V.int) ((p:Nat):Int)=some (.int (z3S m p sp bs*v sp p)):=by
   rw[y4t (by rw[q0a];lia),z8r]
  refine⟨_,rfl,_,rfl,D,_,_,_,rfl,rfl,SqL.of eD,hat,_,rfl,_,rfl,_,rfl,q',_,_,_,rfl,rfl,SqL.of (g12 _ _ hq'),z2K _ _,_,_,rfl,rfl,z1u (m:=1) (by rcases hsg with rfl|rfl<;>decide) (z1d sb m),_,_,rfl,rfl,?_⟩
  refine⟨_,rfl,_,rfl,D,_,_,p,rfl,rfl,eD,z8d (by rw[q0a,q0a];lia),?_⟩
  refine hN _ _ ⟨rfl,fun b' o e=>by rw[z0l (z0h e hDn)];exact g12 _ _ e,?_⟩
  rw[z0d]
  unfold z7r
  rw[List.map_set]
 rintro σ H3 ⟨rfl,g3,eD3⟩
 have hlen:(z7r m p sg sp bs).length =m+1:=by rw[y0t,sl]
 have snz:∃n∈z7r m p sg sp bs,n≠0:=by
  refine z1Y (j:=m) ?_
  rw[y0s (by lia),if_neg (by lia),q1k]
  have bt1:1≤z3S m p sp bs:=(z7m bs 1).1
  exact q0X (by lia) (by lia)
 exact⟨_,rfl,D,_,rfl,eD3,by lia,snz,fun n hn=>z0t (z8t hsg sl pm spos sb hbb n hn) (by lia),fun r2 H4 hr2 g4 e4=>q r2 H4 (g3.free hr2) (g3.trans g4) e4⟩
end
end L2
namespace L2
open PySem PySem.Spec PyProof.Rows
section
open Fr Wl Rk Pt Ld
open Builtin.Int (intBits)
variable {P:Program}{w:World}{K:PySem.W.Frag}{mg:Str→Option Value}{base:Heap}{f:Addr}{fd:FuncData}
def Sb:Nat→Nat→Nat→Nat
 |0,_,_=>1
 |m+1,b,c=>b+2*(max b c+Sb m (2*b+1) (b+c+1)+m+3)+4
def z6W:Nat→Nat→Nat→Bool
 |0,b,c=>decide (b≤2000)&&decide (c≤2000)
 |m+1,b,c=>decide (b≤2000)&&decide (c≤2000)&&decide (Sb (m+1) b c≤12000)&&z6W m (2*b+1) (b+c+1)
theorem y2B (m b c:Nat):1≤Sb m b c:=by
 cases m with
 |zero=>exact Nat.le_refl _
 |succ m=>rw[Sb];lia
theorem z4z {m b c:Nat} (h:z6W m b c=true):b≤2000∧c≤2000:=by
 cases m with
 |zero=>unfold z6W at h;simpa using h
 |succ m=>unfold z6W at h;simp only[Bool.and_eq_true,decide_eq_true_eq] at h;exact h.1.1
theorem z6c {m b c:Nat} (h:z6W (m+1) b c=true):Sb (m+1) b c≤12000∧z6W m (2*b+1) (b+c+1)=true:=by
 unfold z6W at h;simp only[Bool.and_eq_true,decide_eq_true_eq] at h;exact⟨h.1.2,h.2⟩
theorem z9R {m b c:Nat} (h:z6W m b c=true):Sb m b c≤12000:=by
 cases m with
 |zero=>show 1≤12000;decide
 |succ m=>exact (z6c h).1
abbrev z1D:Stmt:=top 31
theorem sc_spot_across:z0q ["ways","bounds","bound","row","found"] ["ways","bounds","bound"] (z0i z1D):=⟨rfl,rfl,rfl,by decide+kernel,rfl,by decide+kernel,by decide+kernel⟩
abbrev z1C:Stmt:=top 32
theorem sc_spot_within:z0q ["ways","bounds","spot","place","bound"] ["ways","bounds"] (z0i z1C):=⟨rfl,rfl,rfl,by decide+kernel,rfl,by decide+kernel,by decide+kernel⟩
abbrev y7a (m:Nat) (bs:List (List Int)) (k:Nat) (H:Hp) (Q:VK):Prop:=
 (∀(r:Addr) (s:List Int) (H':Hp),H r=none→Same H H'→H' r=some (.lst (s.map V.int))→Win m bs s→(∀n∈s,intBits n≤k)→Q (.ref r) H')∧(∀H',Same H H'→¬Pw m bs→Q .non H')
def z7x (K:PySem.W.Frag) (k:Nat):Sp:=fun vs H Q _=>∃(m:Nat) (l:Addr) (as:List Addr) (bs:List (List Int)) (b c:Nat),k=m+1∧vs=[.int (m:Nat),.ref l]∧H l=some (.lst (as.map V.ref))∧LsA H as bs∧(∀r∈bs,Bd m b c r)∧z6W m b c=true∧m≤5∧bs.length≤100∧y7a m bs (Sb m b c) H Q
def z7A (K:PySem.W.Frag) (k:Nat):Sp:=fun vs H Q _=>∃(m:Nat) (l ab:Addr) (as:List Addr) (bs:List (List Int)) (bd s0:List Int) (b c:Nat),k=m+1∧vs=[.int (m:Nat),.ref l,.ref ab]∧H l=some (.lst (as.map V.ref))∧LsA H as bs∧H ab=some (.lst (bd.map V.int))∧(∀r∈bs,Bd m b c r)∧Bd m b c bd∧z6W m b c=true∧m≤5∧bs.length≤100∧Win m bs s0∧hg m (v bd) (v s0)≤0∧y7a m (bs++[bd]) (Sb m b c) H Q
theorem y4g (T:Txt mg) (F:Fun K "spot_across" "spot_across" z1D f fd) (n:Nat) (c_turned:Cal P w K mg base (6+2*n) "turned" ["numbers","sign"] (z2g K)) (c_lead:Cal P w K mg base (6+2*n) "lead" ["bound"] (z6B K)) (c_drawn:Cal P w K mg base (6+2*n) "drawn" ["rows","numbers"] (z3Y K)) (c_stepped:Cal P w K mg base (6+2*n) "stepped" ["bounds","spot","place","sign"] (z3X K)) (c_lifted:Cal P w K mg base (6+2*n) "lifted" ["rows","spot"] (z2Z K)) (c_first_place:Cal P w K mg base (6+2*n) "first_place" ["row"] (z2v K)) (c_spot_within:Cal P w K mg base (6+2*n) "spot_within" ["ways","bounds"] (z7x K n)):FnOk P w K mg base CX0 (6+2*n+1) f fd ["ways","bounds","bound"] (z7A K (n+1)):=by
 refine F.ok sc_spot_across (fun vs H Q E h=>?_) (fun cdv A outer s H vs Q E hr h=>?_)
 ·obtain⟨_,_,_,_,_,_,_,_,_,_,rfl,_⟩:=h;rfl
 obtain⟨m,l,ab,as,bs,bd,s0,b,c,hk,rfl,hl,hls,hab,hB,hbd,hlim,m5,n100,hW0,hh0,q1,q2⟩:=h
 obtain rfl:n=m:=by lia
 refine⟨_,(z0b (z0J (z1e (z0W (z0x (z1S (K:=K) rfl rfl) rfl T.any boot_any (z0a (z0Y (z1n (K:=K) rfl) (pv 2) z1t (z1f (z1E z1c z0g))) z0c)))) (z0e (z0o z3C)) z0y)
  (z0b (z0p (i:=3) sc_spot_across.nd rfl (Or.inr rfl) (z0m c_turned hr rfl (z0a (pv 2) (z0a (z0m c_lead hr rfl (z0a (pv 2) z0c)) z0c))))
  (z0b (z0p (i:=4) sc_spot_across.nd rfl (Or.inl rfl) (z0m c_spot_within hr rfl (z0a (z0v z2p (pv 0) z0g) (z0a (z0L (Nc:=["other","row"]) (fr:=[none,some 3]) rfl (z0D (K:=K) rfl (pv 1)) rfl (by decide) rfl (by decide) rfl ⟨rfl,trivial⟩ ⟨⟨rfl,rfl,rfl,rfl⟩,trivial⟩ (fun _ _ _ _=>(z0k (i:=0) (show List.Nodup (["other","row"]:List Str) from by decide) rfl (Or.inl rfl))) (fun _ _ _ _=>z0K) (fun _ _ _ _=>(z0m c_drawn hr rfl (z0a (z0O (z0a (pv 1) z0c)) (z0a (pv 0) z0c))))) z0c))))
  (z0b (z0J (z3b (z5i (pv 4))) (z0e (z0o z3C)) z0y)
  (z0e (z0o (z0m c_stepped hr rfl (z0a (pv 1) (z0a (z0m c_lifted hr rfl (z0a (z0O (z0a (pv 3) z0c)) (z0a (pv 4) z0c))) (z0a (z0m c_first_place hr rfl (z0a (pv 2) z0c)) (z0a (z0m c_lead hr rfl (z0a (pv 2) z0c)) z0c))))))))))),?_⟩
 have bl:=hbd.len
 obtain⟨b2,c2⟩:=z4z hlim
 have bb:∀n∈bd,intBits n≤2000:=fun n hn=>z0t (hbd.all n hn) (by lia)
 obtain⟨ns,x,eb⟩:∃a' x,bd=a'++[x]:=⟨bd.dropLast,bd.getLast (fun z=>by rw[z] at bl;simp at bl),(q0y _).symm⟩
 have nsl:ns.length=n:=by rw[eb,q0n] at bl;simpa using bl
 have hab':H ab=some (.lst (ns.map V.int++[V.int x])):=by rw[hab,eb,q0x];rfl
 have vns:∀j,j<n→v bd j=v ns j:=fun j hj=>by
  show bd.getD j 0=ns.getD j 0
  rw[eb,q0b,q0b,q0L (by lia)]
 refine z0w (fun σ H'=>σ=[some (.int (n:Nat)),some (.ref l),some (.ref ab),none,none]∧Same H H'∧fp bd<n) (fun N hN=>?_) ?_
 ·refine⟨_,rfl,_,rfl,_,rfl,ab,_,rfl,SqL.of hab',fun z hz=>?_⟩
  rw[z1F]
  have g1:=z0f hz (.lst (ns.map V.int))
  refine⟨z,_,rfl,.inl (SqL.of z0d),z1G ns,_,rfl,?_⟩
  by_cases hnz:∃n∈ns,n≠0
  ·rw[(z1w ns).mpr hnz]
   refine z1I ?_
   refine hN _ _ ⟨rfl,g1,?_⟩
   obtain⟨n',h1,h2⟩:=hnz
   obtain⟨j,hj,e⟩:=y1G h1
   refine q0l fun cc=>h2 ?_
   rw[←e,←vns j (by lia)]
   exact z1g (by lia)
  ·have h0:(ns.map V.int).any trV=false:=by
        cases z:(ns.map V.int).any trV with
        |false=>rfl
        |true=>exact absurd ((z1w ns).mp z) hnz
   rw[h0]
   refine z4N ?_
   refine q2 _ g1 (y2c (s0:=s0) (fun j hj=>?_) hW0.1 hh0)
   rw[vns j hj]
   exact q0l fun hc=>hnz (z1Y hc)
 rintro σ H1 ⟨rfl,g1,hfp⟩
 obtain⟨m,rfl⟩:∃k,n=k+1:=⟨n - 1,by lia⟩
 obtain⟨hS,hlim'⟩:=z6c hlim
 have bnz:∃n∈bd,n≠0:=z6T (by lia)
 have ft:=z3y bnz (z0U bd)
 have hBt:=hbd.turn (z0U bd)
 have tnz:∃n∈z0s (ldL bd) bd,n≠0:=z1Y (j:=fp bd) (by rw[z1A];have:=z2O bnz;lia)
 have tpos:0<v (z0s (ldL bd) bd) (fp (z0s (ldL bd) bd)):=by rw[z1A,ft];exact z2O bnz
 have hrl:∀u∈bs,u.length=m+2:=fun u hu=>(hB u hu).len
 refine z0w (fun σ H'=>∃ar,σ=[some (.int ((m+1:Nat):Int)),some (.ref l),some (.ref ab),some (.ref ar),none]∧Same H H'∧H' ar=some (.lst ((z0s (ldL bd) bd).map V.int))) (fun N hN=>?_) ?_
 ·refine⟨_,rfl,_,rfl,ab,bd,rfl,g1 _ _ hab,by lia,bnz,fun H2 g2=>?_⟩
  exact⟨ab,bd,ldL bd,rfl,.inl (SqL.of ((g1.trans g2) _ _ hab)),by lia,z0U bd,fun n hn=>z0t (bb n hn) (by decide),fun r H' hr g' e'=>hN _ _ ⟨r,rfl,g1.trans (g2.trans g'),e'⟩⟩
 clear g1
 rintro σ H1 ⟨ar,rfl,g1,ear⟩
 have hl1:=g1 _ _ hl
 have hls1:=hls.same g1
 refine z0w (fun σ H'=>Same H H'∧((∃rf fs,σ=[some (.int ((m+1:Nat):Int)),some (.ref l),some (.ref ab),some (.ref ar),some (.ref rf)]∧H' rf=some (.lst (fs.map V.int))∧H' ar=some (.lst ((z0s (ldL bd) bd).map V.int))∧Win m (bs.map (drR (z0s (ldL bd) bd))) fs∧∀n∈fs,intBits n≤Sb m (2*b+1) (b+c+1))∨(σ=[some (.int ((m+1:Nat):Int)),some (.ref l),some (.ref ab),some (.ref ar),some .non]∧¬Pw m (bs.map (drR (z0s (ldL bd) bd)))))) (fun N hN=>?_) ?_
 ·refine⟨_,rfl,_,_,rfl,rfl,_,rfl,l,rfl,⟨_,SqL.of hl1⟩,fun D hD=>?_⟩
  refine z3z rfl (z0z K l (as.map V.ref)) hD (fun _=>true) (fun H' x u=>∃(a:Addr) (t:List Int) (p:Addr),x=V.ref a∧u=V.ref p∧H1 a=some (.lst (t.map V.int))∧H' p=some (.lst ((drR (z0s (ldL bd) bd) t).map V.int))∧p≠D) ?_ (fun H' g'=>SqL.of (g' _ _ hl1)) (z0j (by rw[q0a,hls.1];lia)) ?_ ?_ ?_
  ·rintro H2 H3 x u k ⟨acc,hd⟩ ⟨a,t,p,e1,e2,e3,e4,e5⟩
   exact⟨a,t,p,e1,e2,e3,k _ _ e5 e4,e5⟩
  ·intro x hx Hc gc S h
   exact h _ (Same.refl _)
  ·rintro x hx _ Hc gc ⟨acc,hacc⟩ S h
   obtain⟨a,ha,rfl⟩:=q0g.mp hx
   obtain⟨i,hi,rfl⟩:=q0I.mp ha
   have hi2:i<bs.length:=by rw[←hls.1];exact hi
   have hc:=hls1.2 i _ _ (q0c hi) (q0c hi2)
   have htm:bs[i]∈bs:=q0A hi2
   generalize bs[i]=t at hc htm
   have hBr:=hB t htm
   refine⟨_,rfl,z0j (by show 1≤_;decide),fun z hz=>?_⟩
   have g2:=z0f hz (.lst [V.ref ar])
   refine⟨_,rfl,z,_,ar,z0s (ldL bd) bd,t,2000,rfl,z0d,g2 _ _ (gc _ _ ear),.inl (SqL.of (g2 _ _ (gc _ _ hc))),by rw[hBr.len,hBt.len],by rw[hBt.len];lia,tnz,fun n hn=>z0t (hBt.all n hn) (by lia),fun n hn=>z0t (hBr.all n hn) (by lia),by decide,fun r H3 hr3 _ g3 e3=>?_⟩
   exact h _ _ (g2.trans g3) ⟨_,t,r,rfl,rfl,hc,e3,fun z=>by rw[z] at hr3;have:=g2 _ _ hacc;rw[hr3] at this;cases this⟩
  ·intro us H2 g2 hD2 he
   rw[z0C] at he
   obtain⟨as1,rfl,hL1,hL2⟩:=z7h (G:= .lst) (F:= .lst) (g:=drR (z0s (ldL bd) bd)) (fun xs ys h=>by injection h) hls1.1 hls1.2 (he.imp fun x u ⟨a,t,p,e1,e2,e3,e4,_⟩=>⟨a,t,p,e1,e2,e3,e4⟩)
   refine⟨m,D,as1,bs.map (drR (z0s (ldL bd) bd)),2*b+1,b+c+1,rfl,?_,hD2,⟨hL1,hL2⟩,fun r hr=>?_,hlim',by lia,by rw[q0a];lia,fun rf fs H3 hrf g3 erf hWf hbf=>?_,fun H3 g3 hno=>?_⟩
   ·show [V.int _,V.ref D]=_
    congr 2
    lia
   ·obtain⟨u,hu,rfl⟩:=q0g.mp hr
    exact hBt.draw (hB u hu) (by lia) tnz
   ·exact hN _ _ ⟨g1.trans (g2.trans g3),.inl ⟨rf,fs,rfl,erf,(g2.trans g3) _ _ ear,hWf,hbf⟩⟩
   ·exact hN _ _ ⟨g1.trans (g2.trans g3),.inr ⟨rfl,hno⟩⟩
 clear g1 hl1 hls1 ear
 rintro σ H1 ⟨g1,⟨rf,fs,rfl,erf,ear,hWf,hbf⟩|⟨rfl,hno⟩⟩
 ·refine z0w (fun σ H'=>σ=[some (.int ((m+1:Nat):Int)),some (.ref l),some (.ref ab),some (.ref ar),some (.ref rf)]∧H1=H') (fun N hN=>?_) ?_
  ·refine⟨_,rfl,_,rfl,?_⟩
   refine z1I ?_
   exact hN _ _ ⟨rfl,rfl⟩
  rintro σ H1' ⟨rfl,rfl⟩
  obtain⟨w1,w2,w3⟩:=z8k (w:=m) bl hrl (by lia) hWf
  have e0:Sb (m+1) b c=b+2*(max b c+Sb m (2*b+1) (b+c+1)+m+3)+4:=rfl
  have hub:=z7w hBt (by rw[ft];lia) hWf.1.1 hbf
  have hw:=y3U (t:=z0s (ldL bd) bd) (by rw[ft];lia) hBt.len tpos hrl hWf
  have hlb:=z6b (z1Y (j:=m+1) (by have:=hw.1.2;lia)) hub
  refine⟨_,rfl,_,rfl,z0j (by show 1≤_;decide),fun z hz=>?_⟩
  have g2:=z0f hz (.lst [V.ref ar])
  have e2:upd H1 z (.lst [V.ref ar]) z=some (.lst [V.ref ar]):=z0d
  generalize upd H1 z (.lst [V.ref ar])=H2 at*
  refine⟨_,rfl,z,rf,ar,z0s (ldL bd) bd,fs,m,b,c,Sb m (2*b+1) (b+c+1),rfl,e2,g2 _ _ ear,g2 _ _ erf,hBt,by rw[ft];lia,tpos,hWf.1.1,⟨m,by have:=hWf.1.2;lia⟩,hbf,b2,c2,by lia,by lia,fun r3 H3 hr3 g3 e3=>?_⟩
  have g13:=g1.trans (g2.trans g3)
  refine⟨_,rfl,ab,bd,rfl,.inl (SqL.of (g13 _ _ hab)),by lia,bnz,fun H4 g4=>?_⟩
  have g14:=g13.trans g4
  refine⟨_,rfl,ab,bd,rfl,g14 _ _ hab,by lia,bnz,fun H5 g5=>?_⟩
  have g15:=g14.trans g5
  refine⟨l,r3,as,bs,z4x (upL (m+1) (z0s (ldL bd) bd) fs),fp bd,ldL bd,m+1,b,c,max b c+Sb m (2*b+1) (b+c+1)+m+3,rfl,g15 _ _ hl,hls.same g15,(g4.trans g5) _ _ e3,hB,w1,hfp,z0U bd,hlb,b2,c2,by lia,by lia,n100,fun r6 H6 hr6 g6 e6=>?_⟩
  refine q1 r6 _ H6 (g15.free hr6) (g15.trans g6) e6 w3 ?_
  have snz:∃n∈z7r (m+1) (fp bd) (ldL bd) (z4x (upL (m+1) (z0s (ldL bd) bd) fs)) bs,n≠0:=by
   refine z1Y (j:=m+1) ?_
   rw[y0s (by rw[w1.1.1];lia),if_neg (by lia),q1k]
   have bt1:1≤z3S (m+1) (fp bd) (z4x (upL (m+1) (z0s (ldL bd) bd) fs)) bs:=(z7m bs 1).1
   have:=w1.1.2
   exact q0X (by lia) (by lia)
  exact fun n hn=>z0t (z6b snz (z8t (z0U bd) w1.1.1 hfp w1.1.2 hlb fun r hr=>⟨(hB r hr).way _ hfp,w1.2 r hr⟩) n hn) (by lia)
 ·refine z0w (fun σ H'=>False) (fun N hN=>?_) (fun _ _ h=>h.elim)
  refine⟨_,rfl,_,rfl,?_⟩
  refine z4N ?_
  exact q2 _ g1 (z8l bl hrl (by lia) hW0 hh0 hno)
end
end L2
namespace L2
open PySem PySem.Spec PyProof.Rows
section
open Fr Wl Rk Pt Ld
open Builtin.Int (intBits)
variable {P:Program}{w:World}{K:PySem.W.Frag}{mg:Str→Option Value}{base:Heap}{f:Addr}{fd:FuncData}
def z2L (m:Nat):List Int:=List.replicate m 0++[1]
theorem z6s (m:Nat):Spt m (z2L m):=by
 refine⟨by unfold z2L;simp,?_⟩
 show 0<(z2L m).getD m 0
 unfold z2L
 rw[q0b,q0D (by simp),q1p,q1n]
 decide
theorem z4W (m:Nat):∀n∈z2L m,intBits n≤1:=fun n hn=>by
 unfold z2L at hn
 rcases q0H.mp hn with h|h
 ·rw[(List.mem_replicate.mp h).2];decide
 ·rw[q0m.mp h];decide
theorem z3j (m:Nat):(List.replicate m [V.int 0]).flatten =(List.replicate m (0:Int)).map V.int:=by
 induction m with
 |zero=>rfl
 |succ m ih=>rw[List.replicate_succ,List.flatten_cons,ih,List.replicate_succ];rfl
theorem y6A (T:Txt mg) (F:Fun K "spot_within" "spot_within" z1C f fd) (n:Nat) (c_height:Cal P w K mg base (7+2*n) "height" ["bound","spot"] (z1B K)) (c_spot_across:Cal P w K mg base (7+2*n) "spot_across" ["ways","bounds","bound"] (z7A K (n+1))):FnOk P w K mg base CX0 (7+2*n+1) f fd ["ways","bounds"] (z7x K (n+1)):=by
 refine F.ok sc_spot_within (fun vs H Q E h=>?_) (fun cdv A outer s H vs Q E hr h=>?_)
 ·obtain⟨_,_,_,_,_,_,_,rfl,_⟩:=h;rfl
 obtain⟨m,l,as,bs,b,c,hk,rfl,hl,hls,hB,hlim,m5,n100,q1,q2⟩:=h
 obtain rfl:n=m:=by lia
 refine⟨_,(z0b (z0p (i:=2) sc_spot_within.nd rfl (Or.inl rfl) (z0v z4t (z0v z6L (z0O (z0a z0g z0c)) (pv 0)) (z0O (z0a z0g z0c))))
  (z0b (z0T PassesOwn.never rfl (z5S (K:=K) rfl rfl T.enumerate (z0a (pv 1) z0c)) (z0S (K:=K) rfl 2 rfl (z0u (z0k (i:=3) sc_spot_within.nd rfl (Or.inl rfl)) (z0u (z0k (i:=4) sc_spot_within.nd rfl (Or.inl rfl)) z0R))) (z0e (z0J (z0A op_le (z0m c_height hr rfl (z0a (pv 4) (z0a (pv 2) z0c))) z0g (z0F _)) (z0b (z0p (i:=2) sc_spot_within.nd rfl (Or.inl rfl) (z0m c_spot_across hr rfl (z0a (pv 0) (z0a (z0Y (z1n (K:=K) rfl) (pv 1) z1t (z1f (pv 3))) (z0a (pv 4) z0c)))))
  (z0e (z0J (z3b (z5i (pv 2))) (z0e (z0o z3C)) z0y))) z0y)))
  (z0e (z0o (pv 2))))),?_⟩
 obtain⟨b2,c2⟩:=z4z hlim
 have hS:=z9R hlim
 refine z0w (fun σ H'=>∃r,H r=none∧σ=[some (.int (n:Nat)),some (.ref l),some (.ref r),none,none]∧Same H H'∧H' r=some (.lst ((z2L n).map V.int))) (fun N hN=>?_) ?_
 ·refine⟨z0j (by show 1≤_;decide),fun z hz=>?_⟩
  have g0:=z0f hz (.lst [V.int 0])
  have e0:upd H z (.lst [V.int 0]) z=some (.lst [V.int 0]):=z0d
  generalize upd H z (.lst [V.int 0])=H0 at*
  refine⟨_,rfl,z,_,_,rfl,rfl,e0,by lia,by lia,z0j (by rw[q0J];show 1*n≤_;lia),fun z1 hz1=>?_⟩
  rw[q0J,z3j]
  have g1:=z0f hz1 (.lst ((List.replicate n (0:Int)).map V.int))
  have e1:upd H0 z1 (.lst ((List.replicate n (0:Int)).map V.int)) z1=some (.lst ((List.replicate n (0:Int)).map V.int)):=z0d
  generalize upd H0 z1 (.lst ((List.replicate n (0:Int)).map V.int))=H1 at*
  refine⟨z0j (by show 1≤_;decide),fun z2 hz2=>?_⟩
  have g2:=z0f hz2 (.lst [V.int 1])
  have e2:upd H1 z2 (.lst [V.int 1]) z2=some (.lst [V.int 1]):=z0d
  generalize upd H1 z2 (.lst [V.int 1])=H2 at*
  refine⟨z1,z2,_,_,rfl,rfl,g2 _ _ e1,e2,z0j (by rw[q0a,q1p];show n+1≤_;lia),fun z3 hz3=>?_⟩
  have g02:=g0.trans (g1.trans g2)
  refine hN _ _ ⟨z3,g02.free hz3,rfl,g02.trans (z0f hz3 _),?_⟩
  rw[z0d]
  unfold z2L
  rw[q0x]
  rfl
 rintro σ H0 ⟨r0,hr0,rfl,g0,e0⟩
 refine z0w (fun σ H'=>∃r sp s3 s4,H r=none∧σ=[some (.int (n:Nat)),some (.ref l),some (.ref r),s3,s4]∧Same H H'∧H' r=some (.lst (sp.map V.int))∧Win n bs sp∧∀n'∈sp,intBits n'≤Sb n b c) (fun N hN=>?_) ?_
 ·refine⟨_,rfl,l,_,rfl,g0 _ _ hl,?_⟩
  refine z0E (z4o K l (as.map V.ref)) (fun i σ H'=>∃r sp s3 s4,H r=none∧σ=[some (.int (n:Nat)),some (.ref l),some (.ref r),s3,s4]∧Same H H'∧H' r=some (.lst (sp.map V.int))∧Win n (bs.take i) sp∧∀n'∈sp,intBits n'≤Sb n b c)
   ⟨r0,z2L n,_,_,hr0,rfl,g0,e0,⟨z6s n,fun b' hb'=>by simp at hb'⟩,fun n' hn'=>z0t (z4W n n' hn') (y2B _ _ _)⟩ (fun i σ H' _ h=>by obtain⟨_,_,_,_,_,_,g,_⟩:=h;exact SqL.of (g _ _ hl)) ?_ ?_
  ·clear e0 g0 hr0
   rintro i x σ H1 H2 hi ⟨r,sp,s3,s4,hr1,rfl,g,er,hW,hb⟩ ⟨pr,vv,rfl,hpr,hvv,rfl⟩
   rw[q0a,hls.1] at hi
   rw[q0h] at hvv
   obtain⟨a,ha,rfl⟩:=q0v.mp hvv
   have et:bs[i]? =some bs[i]:=q0c hi
   have hum:bs[i]∈bs:=q0A hi
   have tk:bs.take (i+1)=bs.take i++[bs[i]]:=by rw[q0R,et];rfl
   generalize bs[i]=bd at et hum tk
   have g2:=z0f hpr (.tup [.int i,.ref a])
   have ep:upd H1 pr (.tup [.int i,.ref a]) pr=some (.tup [.int i,.ref a]):=z0d
   generalize upd H1 pr (.tup [.int i,.ref a])=H2 at*
   have gg2:=g.trans g2
   have hbd:=hB bd hum
   have hab:=gg2 _ _ (hls.2 i a bd ha et)
   refine⟨pr,_,rfl,SqT.of ep,rfl,_,_,rfl,_,_,rfl,rfl,?_⟩
   refine⟨_,rfl,_,rfl,a,r,bd,sp,n,rfl,hab,g2 _ _ er,hbd.len,hW.1.1,by lia,fun n' hn'=>z0t (hbd.all n' hn') (by lia),fun n' hn'=>z0t (hb n' hn') (by lia),fun H3 g3=>?_⟩
   refine⟨_,_,rfl,rfl,_,rfl,?_⟩
   have gg3:=gg2.trans g3
   refine z3i (fun cc=>?_) (fun cc=>?_)
   ·have hle:hg n (v bd) (v sp)≤0:=of_decide_eq_true cc
    refine⟨_,rfl,_,rfl,_,rfl,_,rfl,l,_,rfl,SqL.of (gg3 _ _ hl),fun p1 hp1=>?_⟩
    rw[y2s (by lia) (by rw[q0a,hls.1];lia),q0J,←List.map_take]
    have g4:=z0f hp1 (.lst ((as.take i).map V.ref))
    have e4:upd H3 p1 (.lst ((as.take i).map V.ref)) p1=some (.lst ((as.take i).map V.ref)):=z0d
    generalize upd H3 p1 (.lst ((as.take i).map V.ref))=H4 at*
    have gg4:=gg3.trans g4
    have hls4:LsA H4 (as.take i) (bs.take i):=⟨by rw[q0o,q0o,hls.1],fun j a' t' e1 e2=>by
     have hj:j<i:=by
         have:=(q0t.mp e2).1
         rw[q0o] at this;lia
     rw[q1s hj] at e1 e2
     exact gg4 _ _ (hls.2 j a' t' e1 e2)⟩
    refine⟨_,rfl,n,p1,a,as.take i,bs.take i,bd,sp,b,c,rfl,rfl,e4,hls4,(g3.trans g4) _ _ hab,fun r' hr'=>hB r' (q1t hr'),hbd,hlim,m5,by rw[q0o];lia,hW,hle,fun r5 sp5 H5 hr5 g5 er5 hW5 hb5=>?_,fun H5 g5 hno=>?_⟩
    ·refine⟨_,rfl,_,rfl,?_⟩
     refine z1I ?_
     exact⟨r5,sp5,_,_,gg4.free hr5,rfl,gg4.trans g5,er5,by rw[tk];exact hW5,hb5⟩
    ·refine⟨_,rfl,_,rfl,?_⟩
     refine z4N ?_
     refine q2 _ (gg4.trans g5) fun hp=>hno ?_
     rw[←tk]
     exact Pw.less (cs:=bs.drop (i+1)) (by rw[q1A];exact hp)
   ·have hgt:¬hg n (v bd) (v sp)≤0:=fun z=>cc (decide_eq_true z)
    refine⟨r,sp,_,_,hr1,rfl,gg3,(g2.trans g3) _ _ er,⟨hW.1,fun b' hb'=>?_⟩,hb⟩
    rw[tk] at hb'
    rcases q0H.mp hb' with h|h
    ·exact hW.2 b' h
    ·rw[q0m.mp h];lia
  ·rintro σ H1 ⟨r,sp,s3,s4,hr1,rfl,g,er,hW,hb⟩
   rw[q0a,hls.1,q0T] at hW
   exact hN _ _ ⟨r,sp,_,_,hr1,rfl,g,er,hW,hb⟩
 clear e0 g0 hr0
 rintro σ H1 ⟨r,sp,s3,s4,hr1,rfl,g,er,hW,hb⟩
 exact⟨_,rfl,q1 r sp H1 hr1 g er hW hb⟩
theorem z5W {fa:Addr}{fda:FuncData} (T:Txt mg) (Fa:Fun K "spot_across" "spot_across" z1D fa fda) (ba:Binds K fda ["ways","bounds","bound"] []) (ka:PySem.W.keepIn K (.ref fa)=true) (ma:mg "spot_across"=some (.ref fa))
 (F:Fun K "spot_within" "spot_within" z1C f fd) (bw:Binds K fd ["ways","bounds"] []) (kw:PySem.W.keepIn K (.ref f)=true) (mw:mg "spot_within"=some (.ref f))
 (c_turned:Cal P w K mg base 5 "turned" ["numbers","sign"] (z2g K)) (c_lead:Cal P w K mg base 5 "lead" ["bound"] (z6B K)) (c_drawn:Cal P w K mg base 5 "drawn" ["rows","numbers"] (z3Y K)) (c_stepped:Cal P w K mg base 5 "stepped" ["bounds","spot","place","sign"] (z3X K)) (c_lifted:Cal P w K mg base 5 "lifted" ["rows","spot"] (z2Z K)) (c_first_place:Cal P w K mg base 5 "first_place" ["row"] (z2v K)) (c_height:Cal P w K mg base 5 "height" ["bound","spot"] (z1B K)):
 ∀n,FnOk P w K mg base CX0 (6+2*n) f fd ["ways","bounds"] (z7x K n)∧FnOk P w K mg base CX0 (6+2*n+1) fa fda ["ways","bounds","bound"] (z7A K (n+1))
 |0=>by
  have cw:FnOk P w K mg base CX0 (6+2*0) f fd ["ways","bounds"] (z7x K 0):=⟨fun _ _ _ _ h=>by obtain⟨_,_,_,_,_,_,e,_⟩:=h;lia,fun _ _ _ _ _ _ _ _ _ _ _ _ _ h=>by obtain⟨_,_,_,_,_,_,e,_⟩:=h;lia⟩
  exact⟨cw,y4g T Fa 0 (c_turned.mono (by lia)) (c_lead.mono (by lia)) (c_drawn.mono (by lia)) (c_stepped.mono (by lia)) (c_lifted.mono (by lia)) (c_first_place.mono (by lia)) ⟨f,fd,cw,bw,kw,mw⟩⟩
 |n+1=>by
  obtain⟨_,ha⟩:=z5W T Fa ba ka ma F bw kw mw c_turned c_lead c_drawn c_stepped c_lifted c_first_place c_height n
  have e7:6+2*n+1=7+2*n:=by lia
  have ha':Cal P w K mg base (7+2*n) "spot_across" ["ways","bounds","bound"] (z7A K (n+1)):=⟨fa,fda,by rw[←e7];exact ha,ba,ka,ma⟩
  have hw:=y6A T F n (c_height.mono (by lia)) ha'
  have e8:7+2*n+1=6+2*(n+1):=by lia
  rw[e8] at hw
  exact⟨hw,y4g T Fa (n+1) (c_turned.mono (by lia)) (c_lead.mono (by lia)) (c_drawn.mono (by lia)) (c_stepped.mono (by lia)) (c_lifted.mono (by lia)) (c_first_place.mono (by lia)) ⟨f,fd,hw,bw,kw,mw⟩⟩
end
end L2
namespace L2
open PySem PySem.Spec PyProof.Rows
section
open Fr Wl Rk Pt Ld
open Builtin.Int (intBits)
variable {P:Program}{w:World}{K:PySem.W.Frag}{mg:Str→Option Value}{base:Heap}{f:Addr}{fd:FuncData}
abbrev z2U:Stmt:=top 33
theorem z6H:z0q ["walls","signs"] ["walls","signs"] (z0i z2U):=⟨rfl,rfl,rfl,by decide+kernel,rfl,by decide+kernel,by decide+kernel⟩
def z3K (K:PySem.W.Frag):Sp:=fun vs H Q _=>∃(l q:Addr) (as:List Addr) (ts:List (List Int)) (sg:List Int),vs=[.ref l,.ref q]∧H l=some (.lst (as.map V.ref))∧TsA H as ts∧H q=some (.tup (sg.map V.int))∧ts.length=sg.length∧Sgn sg∧ts.length≤100∧(∀t∈ts,t.length≤100∧∀n∈t,intBits n≤13000)∧
 ∀(r:Addr) (bs:List Addr) (H':Hp),H r=none→Same H H'→H' r=some (.lst (bs.map V.ref))→LsA H' bs (bdL ts sg)→Q (.ref r) H'
theorem z6Q (T:Txt mg) (F:Fun K "bounds_at" "bounds_at" z2U f fd) (c_turned:Cal P w K mg base 1 "turned" ["numbers","sign"] (z2g K)):FnOk P w K mg base CX0 2 f fd ["walls","signs"] (z3K K):=by
 refine F.ok z6H (fun vs H Q E h=>?_) (fun cdv A outer s H vs Q E hr h=>?_)
 ·obtain⟨_,_,_,_,_,rfl,_⟩:=h;rfl
 obtain⟨l,q',as,ts,sg,rfl,hl,hts,hq,hlen,hsg,n100,zt,q⟩:=h
 refine⟨_,(z0e (z0o (z0L (Nc:=["numbers","sign"]) (fr:=[none,none]) rfl (z2A (K:=K) rfl rfl T.zip (z0a (pv 0) (z0a (pv 1) z0c))) rfl (by decide) rfl (by decide) rfl trivial trivial (fun _ _ _ _=>(z0S (K:=K) rfl 2 rfl (z0u (z0k (i:=0) (show List.Nodup (["numbers","sign"]:List Str) from by decide) rfl (Or.inl rfl)) (z0u (z0k (i:=1) (show List.Nodup (["numbers","sign"]:List Str) from by decide) rfl (Or.inl rfl)) z0R)))) (fun _ _ _ _=>z0K) (fun _ _ _ _=>(z0m c_turned hr rfl (z0a (pv 0) (z0a (pv 1) z0c))))))),?_⟩
 refine⟨_,rfl,_,rfl,l,q',true,false,_,_,rfl,SqL.of hl,SqT.of hq,fun D hD=>?_⟩
 have dl:(as.zip (ts.zip sg)).length =ts.length:=by rw[q0Q,q0Q,hts.1];lia
 refine y0c (as.zip (ts.zip sg)) (by rw[q0Q,q0a,q0a,hts.1,dl];lia) (z1x K true false l q' (as.map V.ref) (sg.map V.int)) hD (fun d=>(V.ref d.1,V.int d.2.2)) ?_ (fun _=>true) (fun H' d u=>∃p,u= .ref p∧p≠D∧H' p=some (.lst ((z0s d.2.2 d.2.1).map V.int))) ?_ ?_ (fun H' g'=>⟨SqL.of (g' _ _ hl),SqT.of (g' _ _ hq)⟩) (z0j (by rw[q0Q,q0a,q0a,hts.1];lia)) ?_ ?_ ?_
 ·intro i c d hc hd
  rw[q0K] at hc hd
  obtain⟨c1,c2⟩:=hc
  obtain⟨d1,d2⟩:=hd
  rw[q0K] at d2
  rw[q0h] at c1 c2
  rw[d1] at c1
  rw[d2.2] at c2
  obtain⟨u,v⟩:=c
  have h1:V.ref d.1=u:=Option.some.inj c1
  have h2:V.int d.2.2=v:=Option.some.inj c2
  rw[h1,h2]
 ·rintro H2 H3 d u k _ ⟨p,e1,e2,e3⟩
  exact⟨p,e1,e2,k _ _ e2 e3⟩
 ·intro p u v σ H hp S h
  exact⟨p,_,rfl,SqT.of hp,rfl,_,_,rfl,_,_,rfl,rfl,h⟩
 ·intro d hd Hc gc S h
  exact h _ (Same.refl _)
 ·rintro d hd _ Hc gc ⟨acc,hacc⟩ S h
  obtain⟨i,hi⟩:=List.mem_iff_getElem?.mp hd
  rw[q0K] at hi
  obtain⟨d1,d2⟩:=hi
  rw[q0K] at d2
  have ha:=hts.2 i d.1 d.2.1 d1 d2.1
  have hm:=zt _ (q0E d2.1)
  have hs:=hsg _ (q0E d2.2)
  refine⟨_,rfl,_,rfl,d.1,d.2.1,d.2.2,rfl,.inr (SqT.of (gc _ _ ha)),hm.1,hs,hm.2,fun r H' hr g' e'=>?_⟩
  exact h _ _ g' ⟨r,rfl,fun z=>(by rw[z,hacc] at hr;cases hr),e'⟩
 ·intro us H1 g1 hD1 he
  rw[z0C] at he
  obtain⟨bs,hbs⟩:∃bs:List Addr,us=bs.map V.ref:=by
   clear hD1
   generalize as.zip (ts.zip sg)=ds at he
   induction he with
   |nil=>exact⟨[],rfl⟩
   |cons h1 _ ih=>
    obtain⟨p,rfl,_⟩:=h1
    obtain⟨bs,rfl⟩:=ih
    exact⟨p::bs,rfl⟩
  subst hbs
  refine q D bs H1 hD g1 hD1 ⟨?_,fun i a t ea et=>?_⟩
  ·have:=he.length
   rw[dl,q0a] at this
   unfold bdL
   rw[q1x];lia
  ·unfold bdL at et
   rw[List.getElem?_zipWith] at et
   have hi:i<ts.length:=by
        have:=(q0t.mp ea).1
        have h2:=he.length
        rw[dl,q0a] at h2
        lia
   have e1:ts[i]? =some ts[i]:=q0c hi
   have e2:sg[i]? =some (sg[i]'(by lia)):=q0c (by lia)
   have e3:as[i]? =some (as[i]'(by rw[hts.1];exact hi)):=q0c _
   rw[e1,e2] at et
   have hd:(as.zip (ts.zip sg))[i]? =some (as[i]'(by rw[hts.1];exact hi),(ts[i],sg[i]'(by lia))):=by
        rw[q0K]
        refine⟨e3,?_⟩
        rw[q0K]
        exact⟨e1,e2⟩
   obtain⟨p,hp,_,h3⟩:=he.get hd (by rw[q0h,ea];rfl)
   cases hp
   rw[←Option.some.inj et]
   exact h3
abbrev z7I:Stmt:=top 9
theorem sc_ratio:z0q ["top","bottom","shared"] ["top","bottom"] (z0i z7I):=⟨rfl,rfl,rfl,by decide+kernel,rfl,by decide+kernel,by decide+kernel⟩
def y2D (t b:Int):List Int:=[t.fdiv (Int.gcd t b:Nat),b.fdiv (Int.gcd t b:Nat)]
def z5x (K:PySem.W.Frag):Sp:=fun vs H Q _=>∃(t b:Int),vs=[.int t,.int b]∧0<b∧intBits t≤13000∧intBits b≤13000∧∀(r:Addr) (H':Hp),H r=none→Same H H'→H' r=some (.tup ((y2D t b).map V.int))→Q (.ref r) H'
theorem y3k (T:Txt mg) (F:Fun K "ratio" "ratio" z7I f fd) (c_divisor:Cal P w K mg base 1 "divisor" ["one","other"] z1L):FnOk P w K mg base CX0 2 f fd ["top","bottom"] (z5x K):=by
 refine F.ok sc_ratio (fun vs H Q E h=>?_) (fun cdv A outer s H vs Q E hr h=>?_)
 ·obtain⟨_,_,rfl,_⟩:=h;rfl
 obtain⟨t,b,rfl,b0,tb,bb,q⟩:=h
 refine⟨_,(z0b (z0J (z0A z7S (pv 1) z0g (z0F _)) (z0e z3c) z0y)
  (z0b (z0p (i:=2) sc_ratio.nd rfl (Or.inl rfl) (z0m c_divisor hr rfl (z0a (pv 0) (z0a (pv 1) z0c))))
  (z0b (z0J (z0A z4R (pv 1) z0g (z0F _)) (z0e (z0p (i:=2) sc_ratio.nd rfl (Or.inl rfl) (z1E z1c (pv 2)))) z0y)
  (z0e (z0o (z1P (z0a (z0v z3N (pv 0) (pv 2)) (z0a (z0v z3N (pv 1) (pv 2)) z0c)))))))),?_⟩
 have g0:((Int.gcd t b:Nat):Int)≠0:=fun z=>by
  have:=(Int.gcd_eq_zero_iff.mp (Int.ofNat_eq_zero.mp z)).2
  lia
 refine⟨_,rfl,rfl,_,rfl,?_⟩
 refine z3i (fun c=>?_) (fun c=>?_)
 ·have:b=0:=by
   have:=of_decide_eq_true c
   injection this
  lia
 refine⟨_,rfl,_,rfl,t,b,rfl,?_⟩
 refine⟨_,rfl,_,_,rfl,rfl,_,rfl,?_⟩
 refine z3i (fun c2=>?_) (fun c2=>?_)
 ·have:b<0:=of_decide_eq_true c2
  lia
 refine⟨_,rfl,_,rfl,_,_,rfl,rfl,⟨g0,tb⟩,_,rfl,_,rfl,_,_,rfl,rfl,⟨g0,bb⟩,z0j (by show 2≤_;decide),fun r hr=>?_⟩
 exact q r _ hr (z0f hr _) z0d
abbrev z3l:Stmt:=top 36
theorem z7F:z0q ["spot"] ["spot"] (z0i z3l):=⟨rfl,rfl,rfl,by decide+kernel,rfl,by decide+kernel,by decide+kernel⟩
def y0z (K:PySem.W.Frag):Sp:=fun vs H Q _=>∃(p:Addr) (s:List Int) (m:Nat),vs=[.ref p]∧H p=some (.lst (s.map V.int))∧Spt m s∧m≤50∧(∀n∈s,intBits n≤13000)∧
 ∀(r:Addr) (bs:List Addr) (H':Hp),H r=none→Same H H'→H' r=some (.tup (bs.map V.ref))→TsA H' bs (s.dropLast.map fun t=>y2D t (v s m))→Q (.ref r) H'
theorem z7T (T:Txt mg) (F:Fun K "point_of" "point_of" z3l f fd) (c_ratio:Cal P w K mg base 2 "ratio" ["top","bottom"] (z5x K)):FnOk P w K mg base CX0 3 f fd ["spot"] (y0z K):=by
 refine F.ok z7F (fun vs H Q E h=>?_) (fun cdv A outer s H vs Q E hr h=>?_)
 ·obtain⟨_,_,_,rfl,_⟩:=h;rfl
 obtain⟨p,sp,m,rfl,hp,hs,m50,sb,q⟩:=h
 refine⟨_,(z0e (z0o (z1i (z1R (K:=K) rfl) rfl T.tuple boot_tuple (z0a (z0L (Nc:=["top","spot"]) (fr:=[none,some 0]) rfl (z0D (K:=K) rfl (z0Y (z1n (K:=K) rfl) (pv 0) z1t (z1f (z1E z1c z0g)))) rfl (by decide) rfl (by decide) rfl ⟨rfl,trivial⟩ ⟨⟨rfl,rfl,rfl,rfl⟩,trivial⟩ (fun _ _ _ _=>(z0k (i:=0) (show List.Nodup (["top","spot"]:List Str) from by decide) rfl (Or.inl rfl))) (fun _ _ _ _=>z0K) (fun _ _ _ _=>(z0m c_ratio hr rfl (z0a (pv 0) (z0a (z0G (z0B (K:=K) rfl) (pv 1) (z1E z1c z0g) (fun _ _=>rfl)) z0c))))) z0c)))),?_⟩
 obtain⟨sl,spos⟩:=hs
 obtain⟨s',y,es⟩:∃a' x,sp=a'++[x]:=⟨sp.dropLast,sp.getLast (fun z=>by rw[z] at sl;simp at sl),(q0y _).symm⟩
 have s'l:s'.length=m:=by rw[es,q0n] at sl;simpa using sl
 have ey:y=v sp m:=by
  show y=sp.getD m 0
  rw[es,q0b,q0D (by lia),s'l,q1n];rfl
 have hp':H p=some (.lst (s'.map V.int++[V.int (v sp m)])):=by rw[hp,←ey,es,q0x];rfl
 have ed:sp.dropLast=s':=by rw[es,q1F]
 refine⟨_,rfl,_,rfl,_,rfl,p,_,rfl,SqL.of hp',fun z hz=>?_⟩
 rw[z1F]
 have g1:=z0f hz (.lst (s'.map V.int))
 have e1:upd H z (.lst (s'.map V.int)) z=some (.lst (s'.map V.int)):=z0d
 generalize upd H z (.lst (s'.map V.int))=H1 at*
 refine⟨z,rfl,⟨_,SqL.of e1⟩,fun D hD=>?_⟩
 refine z0X s' (by rw[q0a]) (z0z K z (s'.map V.int)) hD (fun n σ=>σ.set 0 (some (.int n))) (fun d e σ=>List.set_set ..) (fun _=>true) (fun H' n u=>∃q,u= .ref q∧H' q=some (.tup ((y2D n (v sp m)).map V.int))) ?_ (fun H' g'=>SqL.of (g' _ _ e1)) (z0j (by rw[q0a];lia)) ?_ ?_ ?_ ?_
 ·rintro H2 H3 d u k ⟨acc,hd⟩ ⟨q,e1,e2⟩
  exact⟨q,e1,k _ _ (fun z=>by rw[z,hd] at e2;cases e2) e2⟩
 ·intro i x d hx hd σ H2 g2 S h
  rw[q0h,hd] at hx
  cases hx
  exact h
 ·intro d hd Hc gc S h
  exact h _ (Same.refl _)
 ·intro d hd _ Hc gc _ S h
  refine⟨_,rfl,_,rfl,_,rfl,p,_,_,_,rfl,rfl,SqL.of (gc _ _ (g1 _ _ hp')),z2K _ _,d,v sp m,rfl,spos,sb d (by rw[es];exact q0B _ hd),z1d sb m,fun r H' hr g' e'=>h _ _ g' ⟨r,rfl,e'⟩⟩
 ·intro us H2 g2 hD2 he
  rw[z0C] at he
  obtain⟨bs,hbs⟩:∃bs:List Addr,us=bs.map V.ref:=by
   clear hD2 es s'l hp' ed e1
   induction he with
   |nil=>exact⟨[],rfl⟩
   |cons h1 _ ih=>
    obtain⟨p,rfl,_⟩:=h1
    obtain⟨bs,rfl⟩:=ih
    exact⟨p::bs,rfl⟩
  subst hbs
  have g02:=g1.trans g2
  refine⟨D,_,rfl,.inl ⟨SqL.of hD2,fun r hr=>?_⟩⟩
  have g3:=z0f hr (.tup (bs.map V.ref))
  refine q r bs _ (g02.free hr) (g02.trans g3) z0d ⟨?_,fun i a t ea et=>?_⟩
  ·have:=he.length
   rw[q0a] at this
   rw[ed,q0a,this]
  ·rw[ed,q0h] at et
   obtain⟨n,hn,rfl⟩:=q0v.mp et
   obtain⟨q2,hq2,h3⟩:=he.get hn (by rw[q0h,ea];rfl)
   cases hq2
   exact g3 _ _ h3
end
end L2
namespace L2
open PySem PySem.Spec PyProof.Rows
section
open Fr Wl Rk Pt Ld
open Builtin.Int (intBits)
variable {P:Program}{w:World}{K:PySem.W.Frag}{mg:Str→Option Value}{base:Heap}{f:Addr}{fd:FuncData}
structure LandD where
 a:Addr
 sg:List Int
 q:Addr
 sp:List Int
def LandAt (H:Hp) (d:LandD) (x:V):Prop:=∃p,x= .ref p∧H p=some (.tup [.ref d.a,.ref d.q])∧H d.a=some (.tup (d.sg.map V.int))∧H d.q=some (.lst (d.sp.map V.int))
theorem LandAt.same {H H':Hp}{d:LandD}{x:V} (h:LandAt H d x) (g:Same H H'):LandAt H' d x:=by
 obtain⟨p,e,h1,h2,h3⟩:=h
 exact⟨p,e,g _ _ h1,g _ _ h2,g _ _ h3⟩
theorem LandAt.put {H:Hp}{d:LandD}{x:V}{l:Addr}{o:HO}{ys:List V} (h:LandAt H d x) (hl:H l=some (.lst ys)) (hq:d.q≠l):LandAt (upd H l o) d x:=by
 obtain⟨p,e,h1,h2,h3⟩:=h
 exact⟨p,e,by rw[z0l fun z=>by rw[z,hl] at h1;cases h1];exact h1,by rw[z0l fun z=>by rw[z,hl] at h2;cases h2];exact h2,by rw[z0l hq];exact h3⟩
theorem Each.andL {α β:Type}{R:α→β→Prop}{Pp:α→Prop}{as:List α}{bs:List β} (h:Each R as bs) (hp:∀a∈as,Pp a):Each (fun a b=>R a b∧Pp a) as bs:=by
 induction h with
 |nil=>exact .nil
 |cons h1 _ ih=>exact .cons ⟨h1,hp _ List.mem_cons_self⟩ (ih fun a ha=>hp a (List.mem_cons_of_mem _ ha))
structure z2Y (m b c:Nat) (ts:List (List Int)) (d:LandD):Prop where
 len:ts.length=d.sg.length
 sgn:Sgn d.sg
 win:Win m (bdL ts d.sg) d.sp
 bits:∀n∈d.sp,intBits n≤Sb m b c
theorem y5J {m b c:Nat}{ts:List (List Int)}{sg:List Int} (h:∀t∈ts,Bd m b c t) (hs:Sgn sg):∀r∈bdL ts sg,Bd m b c r:=fun r hr=>by
 unfold bdL at hr
 obtain⟨i,hi,rfl⟩:=q0I.mp hr
 rw[List.getElem_zipWith]
 exact (h _ (q0A _)).turn (hs _ (q0A _))
abbrev z5J:Stmt:=top 34
theorem sc_parted:z0q ["ways","walls","found","numbers","more","signs","spot","bounds","sign","bound","within"] ["ways","walls","found","numbers"] (z0i z5J):=⟨rfl,rfl,rfl,by decide+kernel,rfl,by decide+kernel,by decide+kernel⟩
def z8x (K:PySem.W.Frag):Sp:=fun vs H Q _=>∃(m:Nat) (lw lf an:Addr) (as:List Addr) (ts:List (List Int)) (xs:List V) (ds:List LandD) (t:List Int) (b c:Nat),vs=[.int (m:Nat),.ref lw,.ref lf,.ref an]∧H lw=some (.lst (as.map V.ref))∧TsA H as ts∧H lf=some (.lst xs)∧Each (LandAt H) ds xs∧H an=some (.tup (t.map V.int))∧(∀u∈ts++[t],Bd m b c u)∧(∀d∈ds,z2Y m b c ts d)∧z6W m b c=true∧m≤4∧ts.length≤20∧ds.length≤1000∧
 ∀(r:Addr) (xs':List V) (ds':List LandD) (H':Hp),H r=none→Same H H'→H' r=some (.lst xs')→Each (LandAt H') ds' xs'→(∀d∈ds',z2Y m b c (ts++[t]) d)→ds'.map LandD.sg=(ds.map LandD.sg).flatMap (z2a m ts t)→Q (.ref r) H'
open Classical in
theorem y1v (T:Txt mg) (F:Fun K "parted" "parted" z5J f fd) (c_bounds_at:Cal P w K mg base 15 "bounds_at" ["walls","signs"] (z3K K)) (c_turned:Cal P w K mg base 15 "turned" ["numbers","sign"] (z2g K)) (c_height:Cal P w K mg base 15 "height" ["bound","spot"] (z1B K)) (c0:∀m,m≤4→Cal P w K mg base 15 "spot_across" ["ways","bounds","bound"] (z7A K (m+1))):FnOk P w K mg base CX0 16 f fd ["ways","walls","found","numbers"] (z8x K):=by
 refine F.ok sc_parted (fun vs H Q E h=>?_) (fun cdv A outer s H vs Q E hr h=>?_)
 ·obtain⟨_,_,_,_,_,_,_,_,_,_,_,rfl,_⟩:=h;rfl
 obtain⟨m,lw,lf,an,as,ts,xs,ds,t,b,c,rfl,hlw,hts,hlf,hE,han,hB,hG,hlim,m4,n20,d1000,q⟩:=h
 have c_spot_across:=c0 m m4
 refine⟨_,(z0b (z0p (i:=4) sc_parted.nd rfl (Or.inl rfl) (z0O z0c))
  (z0b (z0T PassesOwn.never rfl (z0D (K:=K) rfl (pv 2)) (z0S (K:=K) rfl 2 rfl (z0u (z0k (i:=5) sc_parted.nd rfl (Or.inl rfl)) (z0u (z0k (i:=6) sc_parted.nd rfl (Or.inl rfl)) z0R))) (z0b (z0p (i:=7) sc_parted.nd rfl (Or.inl rfl) (z0m c_bounds_at hr rfl (z0a (pv 1) (z0a (pv 5) z0c))))
  (z0e (z0T PassesOwn.never rfl (z4p (K:=K) rfl (z1P (z0a (z1E z1c z0g) (z0a z0g z0c)))) (z0k (i:=8) sc_parted.nd rfl (Or.inl rfl)) (z0b (z0p (i:=9) sc_parted.nd rfl (Or.inl rfl) (z0m c_turned hr rfl (z0a (pv 3) (z0a (pv 8) z0c))))
  (z0b (z0p (i:=10) sc_parted.nd rfl (Or.inl rfl) (z3M (z0A y1o (z0m c_height hr rfl (z0a (pv 9) (z0a (pv 6) z0c))) z0g (z0F _)) (pv 6) (z0m c_spot_across hr rfl (z0a (pv 0) (z0a (pv 7) (z0a (pv 9) z0c))))))
  (z0e (z0J (z3b (z5T (pv 10))) (z0e (z1o (z4q PySem.F.plainAttrs_list PySem.F.slot_list_append PySem.F.type_list_append z1j (pv 4) (z0a (z1P (z0a (z0v (y3h (K:=K) rfl) (pv 5) (z1P (z0a (pv 8) z0c))) (z0a (pv 10) z0c))) z0c)))) z0y))))))))
  (z0e (z0o (pv 4))))),?_⟩
 obtain⟨b2,c2⟩:=z4z hlim
 have hS:=z9R hlim
 have hBt:=hB t (by simp)
 have hBs:∀u∈ts,Bd m b c u:=fun u hu=>hB u (q0B _ hu)
 have mx:max b c≤2000:=by lia
 refine z0w (fun σ H'=>∃r,H r=none∧σ=[some (.int (m:Nat)),some (.ref lw),some (.ref lf),some (.ref an),some (.ref r),none,none,none,none,none,none]∧Same H H'∧H' r=some (.lst [])) (fun N hN=>?_) ?_
 ·exact⟨q0S _,fun r hr=>hN _ _ ⟨r,hr,rfl,z0f hr _,z0d⟩⟩
 rintro σ H0 ⟨r,hr0,rfl,g0,e0⟩
 refine z0w (fun σ H'=>∃xs' ds' s5 s6 s7 s8 s9 s10,σ=[some (.int (m:Nat)),some (.ref lw),some (.ref lf),some (.ref an),some (.ref r),s5,s6,s7,s8,s9,s10]∧Same H H'∧H' r=some (.lst xs')∧Each (LandAt H') ds' xs'∧(∀d∈ds',z2Y m b c (ts++[t]) d)∧ds'.map LandD.sg=(ds.map LandD.sg).flatMap (z2a m ts t)) (fun N hN=>?_) ?_
 ·refine⟨_,rfl,lf,rfl,⟨_,SqL.of (g0 _ _ hlf)⟩,?_⟩
  refine z0E (z0z K lf xs) (fun i σ H'=>∃xs' ds' s5 s6 s7 s8 s9 s10,σ=[some (.int (m:Nat)),some (.ref lw),some (.ref lf),some (.ref an),some (.ref r),s5,s6,s7,s8,s9,s10]∧Same H H'∧H' r=some (.lst xs')∧Each (LandAt H') ds' xs'∧(∀d∈ds',z2Y m b c (ts++[t]) d∧d.q≠r)∧xs'.length≤2*i∧ds'.map LandD.sg=((ds.take i).map LandD.sg).flatMap (z2a m ts t))
   ⟨[],[],_,_,_,_,_,_,rfl,g0,e0,.nil,(fun d hd=>by cases hd),q0S _,rfl⟩ (fun i σ H' _ h=>by obtain⟨_,_,_,_,_,_,_,_,_,g,_⟩:=h;exact SqL.of (g _ _ hlf)) ?_ ?_
  ·clear g0 e0
   rintro i x σ H1 H2 hi ⟨xs',ds',s5,s6,s7,s8,s9,s10,rfl,g,er,hE',hG',hx',hsg⟩ ⟨rfl,hx⟩
   have hid:i<ds.length:=by rw[hE.length];exact hi
   have hdi:ds[i]? =some ds[i]:=q0c hid
   have hdm:ds[i]∈ds:=q0A hid
   have tk:ds.take (i+1)=ds.take i++[ds[i]]:=by rw[q0R,hdi];rfl
   generalize ds[i]=d at hdi hdm tk
   obtain⟨p,rfl,h1,h2,h3⟩:=(hE.get hdi hx).same g
   have hd:=hG d hdm
   have hdq0:d.q≠r:=fun z=>by
        obtain⟨_,_,_,_,h3'⟩:=hE.get hdi hx
        rw[z,hr0] at h3';cases h3'
   refine⟨p,_,rfl,SqT.of h1,rfl,_,_,rfl,_,_,rfl,rfl,?_⟩
   have hBb:=y5J hBs hd.sgn
   refine z0w (fun σ H'=>∃lb bs,σ=[some (.int (m:Nat)),some (.ref lw),some (.ref lf),some (.ref an),some (.ref r),some (.ref d.a),some (.ref d.q),some (.ref lb),s8,s9,s10]∧Same H2 H'∧H' lb=some (.lst (bs.map V.ref))∧LsA H' bs (bdL ts d.sg)∧lb≠r∧r∉bs) (fun N' hN'=>?_) ?_
   ·refine⟨_,rfl,_,rfl,lw,d.a,as,ts,d.sg,rfl,g _ _ hlw,hts.same g,h2,hd.len,hd.sgn,by lia,fun u hu=>⟨by rw[(hBs u hu).len];lia,fun n hn=>z0t ((hBs u hu).all n hn) (by lia)⟩,fun lb bs H3 hlb g3 elb hbs=>?_⟩
    refine hN' _ _ ⟨lb,bs,rfl,g3,elb,hbs,fun z=>(by rw[z,er] at hlb;cases hlb),fun z=>?_⟩
    obtain⟨k,hk⟩:=List.mem_iff_getElem?.mp z
    have hkl:k<(bdL ts d.sg).length :=by rw[←hbs.1];exact (q0t.mp hk).1
    have h4:=hbs.2 k r _ hk (q0c hkl)
    have hl1:=(hBb _ (q0A hkl)).len
    rw[g3 _ _ er] at h4
    generalize (bdL ts d.sg)[k]=row at h4 hl1
    cases row with
    |nil=>simp at hl1
    |cons n0 row=>
     have h5:xs'=(n0::row).map V.int:=by injection h4 with z;injection z
     rw[h5] at hE'
     cases hE' with
     |cons h6 _=>
      obtain⟨_,h7,_⟩:=h6
      cases h7
   rintro σ H3 ⟨lb,bs,rfl,g3,elb,hbs,lbr,hrb⟩
   have gH3:=g.trans g3
   have er3:=g3 _ _ er
   have hE3:=hE'.imp fun _ _ h=>LandAt.same h g3
   clear h1 h2 h3 er hE' g g3
   refine⟨_,rfl,z0j (by show 2≤_;decide),fun z hz=>?_⟩
   have zr:z≠r:=fun e=>by rw[e,er3] at hz;cases hz
   have g4:=z0f hz (.tup [V.int (-1),V.int 1])
   have e4:upd H3 z (.tup [V.int (-1),V.int 1]) z=some (.tup [V.int (-1),V.int 1]):=z0d
   generalize upd H3 z (.tup [V.int (-1),V.int 1])=H4 at*
   refine⟨z,rfl,⟨_,SqT.of e4⟩,?_⟩
   refine z0E (z2H K z [V.int (-1),V.int 1]) (fun j σ H'=>∃xs' ds' s8 s9 s10,σ=[some (.int (m:Nat)),some (.ref lw),some (.ref lf),some (.ref an),some (.ref r),some (.ref d.a),some (.ref d.q),some (.ref lb),s8,s9,s10]∧Same H H'∧H' lb=some (.lst (bs.map V.ref))∧LsA H' bs (bdL ts d.sg)∧H' z=some (.tup [V.int (-1),V.int 1])∧H' r=some (.lst xs')∧Each (LandAt H') ds' xs'∧(∀d∈ds',z2Y m b c (ts++[t]) d∧d.q≠r)∧xs'.length≤2*i+j∧ds'.map LandD.sg=((ds.take i).map LandD.sg).flatMap (z2a m ts t)++([d.sg++[-1],d.sg++[1]].take j).filter fun s'=>decide (y2F m (ts++[t]) s'))
        ⟨xs',ds',_,_,_,rfl,gH3.trans g4,g4 _ _ elb,hbs.same g4,e4,g4 _ _ er3,hE3.imp fun _ _ h=>LandAt.same h g4,hG',by lia,by rw[hsg];simp⟩ (fun j σ H' _ h=>let ⟨_,_,_,_,_,_,_,_,_,e,_⟩:=h;SqT.of e) ?_ ?_
   ·clear hE3 er3 hbs elb gH3 e4 g4 hsg hx' hG'
    rintro j x σ H5 H5' hj ⟨xs',ds',s8,s9,s10,rfl,g,elb,hbs,e4,er,hE',hG',hx',hsg⟩ ⟨rfl,hx⟩
    obtain⟨sg,rfl,hsgn,tk2⟩:∃sg:Int,x= .int sg∧(sg=1∨sg= -1)∧[d.sg++[-1],d.sg++[1]].take (j+1)=[d.sg++[-1],d.sg++[1]].take j++[d.sg++[sg]]:=by
     have hj2:j<2:=hj
     rcases (by lia:j=0∨j=1) with rfl|rfl
     ·exact⟨-1,(Option.some.inj hx).symm,.inr rfl,rfl⟩
     ·exact⟨1,(Option.some.inj hx).symm,.inl rfl,rfl⟩
    have hlj:j<2:=hj
    have hRe:y2F m (ts++[t]) (d.sg++[sg])↔Pw m (bdL ts d.sg++[z0s sg t]):=by unfold y2F;rw[z4J hd.len]
    have hBx:=hBt.turn hsgn
    have hda:H5' d.a=some (.tup (d.sg.map V.int)):=by
     obtain⟨_,_,_,h2,_⟩:=hE.get hdi ‹xs[i]? =some _›
     exact g _ _ h2
    have hdq:H5' d.q=some (.lst (d.sp.map V.int)):=by
     obtain⟨_,_,_,_,h3⟩:=hE.get hdi ‹xs[i]? =some _›
     exact g _ _ h3
    refine z0w (fun σ H'=>∃ab,σ=[some (.int (m:Nat)),some (.ref lw),some (.ref lf),some (.ref an),some (.ref r),some (.ref d.a),some (.ref d.q),some (.ref lb),some (.int sg),some (.ref ab),s10]∧Same H5' H'∧H' ab=some (.lst ((z0s sg t).map V.int))) (fun N' hN'=>?_) ?_
    ·exact⟨_,rfl,_,rfl,an,t,sg,rfl,.inr (SqT.of (g _ _ han)),by rw[hBt.len];lia,hsgn,fun n hn=>z0t (hBt.all n hn) (by lia),fun ab H' hab g' e'=>hN' _ _ ⟨ab,rfl,g',e'⟩⟩
    rintro σ H6 ⟨ab,rfl,g6,eab⟩
    refine z0w (fun σ H'=>Same H6 H'∧((∃q5 sp5,σ=[some (.int (m:Nat)),some (.ref lw),some (.ref lf),some (.ref an),some (.ref r),some (.ref d.a),some (.ref d.q),some (.ref lb),some (.int sg),some (.ref ab),some (.ref q5)]∧H' q5=some (.lst (sp5.map V.int))∧q5≠r∧Win m (bdL ts d.sg++[z0s sg t]) sp5∧∀n∈sp5,intBits n≤Sb m b c)∨(σ=[some (.int (m:Nat)),some (.ref lw),some (.ref lf),some (.ref an),some (.ref r),some (.ref d.a),some (.ref d.q),some (.ref lb),some (.int sg),some (.ref ab),some .non]∧¬Pw m (bdL ts d.sg++[z0s sg t])))) (fun N' hN'=>?_) ?_
    ·refine⟨_,rfl,_,rfl,ab,d.q,z0s sg t,d.sp,m,rfl,eab,g6 _ _ hdq,hBx.len,hd.win.1.1,by lia,fun n hn=>z0t (hBx.all n hn) (by lia),fun n hn=>z0t (hd.bits n hn) (by lia),fun H7 g7=>?_⟩
     refine⟨_,_,rfl,rfl,_,rfl,?_⟩
     refine z3i (fun cc=>?_) (fun cc=>?_)
     ·have hpos:0<hg m (v (z0s sg t)) (v d.sp):=of_decide_eq_true cc
      refine⟨_,rfl,?_⟩
      refine hN' _ _ ⟨g7,.inl ⟨d.q,d.sp,rfl,(g6.trans g7) _ _ hdq,hdq0,⟨hd.win.1,fun b' hb'=>?_⟩,hd.bits⟩⟩
      rcases q0H.mp hb' with h|h
      ·exact hd.win.2 b' h
      ·rw[q0m.mp h];exact hpos
     ·have hle:hg m (v (z0s sg t)) (v d.sp)≤0:=by
          have:¬0<hg m (v (z0s sg t)) (v d.sp):=fun z=>cc (decide_eq_true z)
          lia
      have g67:=g6.trans g7
      refine⟨_,rfl,_,rfl,_,rfl,m,lb,ab,bs,bdL ts d.sg,z0s sg t,d.sp,b,c,rfl,rfl,g67 _ _ elb,hbs.same g67,g7 _ _ eab,hBb,hBx,hlim,by lia,by unfold bdL;rw[List.length_zipWith];lia,hd.win,hle,fun r5 sp5 H8 hr5 g8 er5 hW5 hb5=>?_,fun H8 g8 hno=>?_⟩
      ·exact hN' _ _ ⟨g7.trans g8,.inl ⟨r5,sp5,rfl,er5,fun z=>(by rw[z,g67 _ _ er] at hr5;cases hr5),hW5,hb5⟩⟩
      ·exact hN' _ _ ⟨g7.trans g8,.inr ⟨rfl,hno⟩⟩
    rintro σ H7 ⟨g7,⟨q5,sp5,rfl,eq5,q5r,hW5,hb5⟩|⟨rfl,hno⟩⟩
    ·have g57:=g6.trans g7
     refine⟨_,rfl,_,rfl,?_⟩
     refine z4N ?_
     refine⟨_,rfl,.inl ⟨rfl,_,SqL.of (g57 _ _ er)⟩,_,rfl,_,rfl,z0j (by show 1≤_;decide),fun z1 hz1=>?_⟩
     have g8:=z0f hz1 (.tup [V.int sg])
     have e8:upd H7 z1 (.tup [V.int sg]) z1=some (.tup [V.int sg]):=z0d
     generalize upd H7 z1 (.tup [V.int sg])=H8 at*
     have g58:=g57.trans g8
     refine⟨d.a,z1,_,_,rfl,rfl,SqT.of (g58 _ _ hda),e8,by simp,z0j (by rw[q0a,←hd.len];show _+1≤_;lia),fun p9 H9 g9 e9=>?_⟩
     have e9':H9 p9=some (.tup ((d.sg++[sg]).map V.int)):=by rw[e9,q0x];rfl
     refine⟨_,rfl,z0j (by show 2≤_;decide),fun pA hpA=>?_⟩
     have gA:=z0f hpA (.tup [V.ref p9,V.ref q5])
     have eA:upd H9 pA (.tup [V.ref p9,V.ref q5]) pA=some (.tup [V.ref p9,V.ref q5]):=z0d
     generalize upd H9 pA (.tup [V.ref p9,V.ref q5])=HA at*
     have g5A:=g58.trans (g9.trans gA)
     have erA:=g5A _ _ er
     refine⟨r,_,_,rfl,rfl,erA,z2n (by lia),?_⟩
     have hnew:LandAt HA ⟨p9,d.sg++[sg],q5,sp5⟩ (.ref pA):=⟨pA,rfl,eA,gA _ _ e9',(g8.trans (g9.trans gA)) _ _ eq5⟩
     refine⟨xs'++[.ref pA],ds'++[⟨p9,d.sg++[sg],q5,sp5⟩],_,_,_,rfl,fun b' o e=>by rw[z0l (z0h e hr0)];exact (g.trans g5A) _ _ e,by rw[z0l lbr];exact g5A _ _ elb,⟨hbs.1,fun k a' t' e1 e2=>by
         have ne:a'≠r:=fun z=>hrb (by rw[←z];exact q0E e1)
         rw[z0l ne];exact g5A _ _ (hbs.2 k a' t' e1 e2)⟩,by rw[z0l zr];exact g5A _ _ e4,z0d,?_,fun d' hd'=>?_,by rw[q0n,q0Y];lia,?_⟩
     ·refine Each.snoc ?_ (hnew.put erA q5r)
      have hE5:Each (fun d' x=>LandAt HA d' x∧d'.q≠r) ds' xs':=Each.andL (hE'.imp fun _ _ h=>LandAt.same h g5A) fun d' hd'=>(hG' d' hd').2
      exact hE5.imp fun _ _ h=>h.1.put erA h.2
     ·rcases q0H.mp hd' with h|h
      ·exact hG' d' h
      ·rw[q0m.mp h]
       refine⟨⟨by rw[q0n,q0n,hd.len];rfl,fun y hy=>?_,?_,hb5⟩,q5r⟩
       ·rcases q0H.mp hy with h|h
        ·exact hd.sgn y h
        ·rw[q0m.mp h];exact hsgn
       ·show Win m (bdL (ts++[t]) (d.sg++[sg])) sp5
        rw[z4J hd.len];exact hW5
     ·rw[q0x,hsg,tk2,q0W,q1f (by rw[decide_eq_true_eq,hRe];exact⟨sp5,hW5⟩),List.filter_nil,List.append_assoc]
      rfl
    ·have g57:=g6.trans g7
     refine⟨_,rfl,_,rfl,?_⟩
     refine z1I ?_
     refine⟨xs',ds',_,_,_,rfl,g.trans g57,g57 _ _ elb,hbs.same g57,g57 _ _ e4,g57 _ _ er,hE'.imp fun _ _ h=>LandAt.same h g57,hG',by lia,?_⟩
     rw[tk2,q0W,q1g (by rw[decide_eq_true_eq,hRe];exact hno),List.filter_nil,List.append_nil]
     exact hsg
   ·rintro σ H5 ⟨xs',ds',s8,s9,s10,rfl,g,_,_,_,er,hE',hG',hx',hsg⟩
    refine⟨xs',ds',_,_,_,_,_,_,rfl,g,er,hE',hG',by simp at hx';lia,?_⟩
    rw[hsg,tk,q0x,List.flatMap_append]
    congr 1
    show _=([d.sg]:List (List Int)).flatMap (z2a m ts t)
    rw[List.flatMap_cons,List.flatMap_nil,List.append_nil]
    rfl
  ·rintro σ H1 ⟨xs',ds',s5,s6,s7,s8,s9,s10,rfl,g,er,hE',hG',_,hsg⟩
   rw[←hE.length,q0T] at hsg
   exact hN _ _ ⟨xs',ds',_,_,_,_,_,_,rfl,g,er,hE',fun d hd=>(hG' d hd).1,hsg⟩
 clear g0 e0
 rintro σ H1 ⟨xs',ds',s5,s6,s7,s8,s9,s10,rfl,g,er,hE',hG',hsg⟩
 exact⟨_,rfl,q r xs' ds' H1 hr0 g er hE' hG' hsg⟩
end
end L2
namespace L2
open PySem PySem.Spec PyProof.Rows
section
open Fr Wl Rk Pt Ld
open Builtin.Int (intBits)
variable {P:Program}{w:World}{K:PySem.W.Frag}{mg:Str→Option Value}{base:Heap}{f:Addr}{fd:FuncData}
abbrev z2w:Stmt:=top 35
theorem sc_land_spots:z0q ["ways","walls","found","place","numbers"] ["ways","walls"] (z0i z2w):=⟨rfl,rfl,rfl,by decide+kernel,rfl,by decide+kernel,by decide+kernel⟩
def y0v (K:PySem.W.Frag):Sp:=fun vs H Q _=>∃(m:Nat) (lw:Addr) (as:List Addr) (ts:List (List Int)) (b c:Nat),vs=[.int (m:Nat),.ref lw]∧H lw=some (.lst (as.map V.ref))∧TsA H as ts∧(∀u∈ts,Bd m b c u)∧z6W m b c=true∧m≤4∧ts.length≤8∧
 ∀(r:Addr) (xs:List V) (ds:List LandD) (H':Hp),H r=none→Same H H'→H' r=some (.lst xs)→Each (LandAt H') ds xs→(∀d∈ds,z2Y m b c ts d)→ds.map LandD.sg=sgN m ts ts.length→Q (.ref r) H'
theorem z5X (T:Txt mg) (F:Fun K "land_spots" "land_spots" z2w f fd) (c_parted:Cal P w K mg base 16 "parted" ["ways","walls","found","numbers"] (z8x K)):FnOk P w K mg base CX0 17 f fd ["ways","walls"] (y0v K):=by
 refine F.ok sc_land_spots (fun vs H Q E h=>?_) (fun cdv A outer s H vs Q E hr h=>?_)
 ·obtain⟨_,_,_,_,_,_,rfl,_⟩:=h;rfl
 obtain⟨m,lw,as,ts,b,c,rfl,hlw,hts,hB,hlim,m4,n8,q⟩:=h
 refine⟨_,(z0b (z0p (i:=2) sc_land_spots.nd rfl (Or.inl rfl) (z0O (z0a (z1P (z0a (z1P z0c) (z0a (z0v z4t (z0v z6L (z0O (z0a z0g z0c)) (pv 0)) (z0O (z0a z0g z0c))) z0c))) z0c)))
  (z0b (z0T PassesOwn.never rfl (z5S (K:=K) rfl rfl T.enumerate (z0a (pv 1) z0c)) (z0S (K:=K) rfl 2 rfl (z0u (z0k (i:=3) sc_land_spots.nd rfl (Or.inl rfl)) (z0u (z0k (i:=4) sc_land_spots.nd rfl (Or.inl rfl)) z0R))) (z0e (z0p (i:=2) sc_land_spots.nd rfl (Or.inl rfl) (z0m c_parted hr rfl (z0a (pv 0) (z0a (z0Y (z1n (K:=K) rfl) (pv 1) z1t (z1f (pv 3))) (z0a (pv 2) (z0a (pv 4) z0c))))))))
  (z0e (z0o (pv 2))))),?_⟩
 refine z0w (fun σ H'=>∃r xs ds,H r=none∧σ=[some (.int (m:Nat)),some (.ref lw),some (.ref r),none,none]∧Same H H'∧H' r=some (.lst xs)∧Each (LandAt H') ds xs∧(∀d∈ds,z2Y m b c [] d)∧ds.map LandD.sg=[[]]) (fun N hN=>?_) ?_
 ·refine⟨z0j (by show 0≤_;decide),fun zt hzt=>?_⟩
  have gt:=z0f hzt (.tup [])
  have et:upd H zt (.tup []) zt=some (.tup (([]:List Int).map V.int)):=z0d
  generalize upd H zt (.tup [])=Ht at*
  refine⟨z0j (by show 1≤_;decide),fun z hz=>?_⟩
  have g0:=z0f hz (.lst [V.int 0])
  have e0:upd Ht z (.lst [V.int 0]) z=some (.lst [V.int 0]):=z0d
  generalize upd Ht z (.lst [V.int 0])=H0 at*
  refine⟨_,rfl,z,_,_,rfl,rfl,e0,by lia,by lia,z0j (by rw[q0J];show 1*m≤_;lia),fun z1 hz1=>?_⟩
  rw[q0J,z3j]
  have g1:=z0f hz1 (.lst ((List.replicate m (0:Int)).map V.int))
  have e1:upd H0 z1 (.lst ((List.replicate m (0:Int)).map V.int)) z1=some (.lst ((List.replicate m (0:Int)).map V.int)):=z0d
  generalize upd H0 z1 (.lst ((List.replicate m (0:Int)).map V.int))=H1 at*
  refine⟨z0j (by show 1≤_;decide),fun z2 hz2=>?_⟩
  have g2:=z0f hz2 (.lst [V.int 1])
  have e2:upd H1 z2 (.lst [V.int 1]) z2=some (.lst [V.int 1]):=z0d
  generalize upd H1 z2 (.lst [V.int 1])=H2 at*
  refine⟨z1,z2,_,_,rfl,rfl,g2 _ _ e1,e2,z0j (by rw[q0a,q1p];show m+1≤_;lia),fun z3 hz3=>?_⟩
  have ez:(List.replicate m (0:Int)).map V.int++[V.int 1]=(z2L m).map V.int:=by unfold z2L;rw[List.map_append];rfl
  rw[ez]
  have g3:=z0f hz3 (.lst ((z2L m).map V.int))
  have e3:upd H2 z3 (.lst ((z2L m).map V.int)) z3=some (.lst ((z2L m).map V.int)):=z0d
  generalize upd H2 z3 (.lst ((z2L m).map V.int))=H3 at*
  refine⟨z0j (by show 2≤_;decide),fun z4 hz4=>?_⟩
  have g4:=z0f hz4 (.tup [V.ref zt,V.ref z3])
  have e4:upd H3 z4 (.tup [V.ref zt,V.ref z3]) z4=some (.tup [V.ref zt,V.ref z3]):=z0d
  generalize upd H3 z4 (.tup [V.ref zt,V.ref z3])=H4 at*
  refine⟨z0j (by show 1≤_;decide),fun z5 hz5=>?_⟩
  have g5:=z0f hz5 (.lst [V.ref z4])
  have g04:Same H H4:=gt.trans (g0.trans (g1.trans (g2.trans (g3.trans g4))))
  refine hN _ _ ⟨z5,[V.ref z4],[⟨zt,[],z3,z2L m⟩],g04.free hz5,rfl,g04.trans g5,z0d,.cons ⟨z4,rfl,g5 _ _ e4,(g0.trans (g1.trans (g2.trans (g3.trans (g4.trans g5))))) _ _ et,(g4.trans g5) _ _ e3⟩ .nil,fun d hd=>?_,rfl⟩
  rw[q0m.mp hd]
  exact⟨rfl,(fun x hx=>by cases hx),⟨z6s m,fun b' hb'=>by unfold bdL at hb';simp at hb'⟩,fun n hn=>z0t (z4W m n hn) (y2B _ _ _)⟩
 rintro σ H0 ⟨r0,xs0,ds0,hr0,rfl,g0,e0,hE0,hG0,hs0⟩
 refine z0w (fun σ H'=>∃r xs ds s3 s4,H r=none∧σ=[some (.int (m:Nat)),some (.ref lw),some (.ref r),s3,s4]∧Same H H'∧H' r=some (.lst xs)∧Each (LandAt H') ds xs∧(∀d∈ds,z2Y m b c ts d)∧ds.map LandD.sg=sgN m ts ts.length) (fun N hN=>?_) ?_
 ·refine⟨_,rfl,lw,_,rfl,g0 _ _ hlw,?_⟩
  refine z0E (z4o K lw (as.map V.ref)) (fun i σ H'=>∃r xs ds s3 s4,H r=none∧σ=[some (.int (m:Nat)),some (.ref lw),some (.ref r),s3,s4]∧Same H H'∧H' r=some (.lst xs)∧Each (LandAt H') ds xs∧(∀d∈ds,z2Y m b c (ts.take i) d)∧ds.map LandD.sg=sgN m ts i)
   ⟨r0,xs0,ds0,_,_,hr0,rfl,g0,e0,hE0,hG0,hs0⟩ (fun i σ H' _ h=>by obtain⟨_,_,_,_,_,_,_,g,_⟩:=h;exact SqL.of (g _ _ hlw)) ?_ ?_
  ·clear e0 g0 hr0 hE0 hG0 hs0
   rintro i x σ H1 H2 hi ⟨r,xs,ds,s3,s4,hr1,rfl,g,er,hE,hG,hsg⟩ ⟨pr,vv,rfl,hpr,hvv,rfl⟩
   rw[q0a,hts.1] at hi
   rw[q0h] at hvv
   obtain⟨a,ha,rfl⟩:=q0v.mp hvv
   have et:ts[i]? =some (ts.getD i []):=by rw[q0b,q0c hi];rfl
   have tk:ts.take (i+1)=ts.take i++[ts.getD i []]:=by rw[q0R,et];rfl
   have esg:sgN m ts (i+1)=(sgN m ts i).flatMap (z2a m (ts.take i) (ts.getD i [])):=rfl
   generalize ts.getD i []=t at et tk esg
   have g2:=z0f hpr (.tup [.int i,.ref a])
   have ep:upd H1 pr (.tup [.int i,.ref a]) pr=some (.tup [.int i,.ref a]):=z0d
   generalize upd H1 pr (.tup [.int i,.ref a])=H2 at*
   have gg2:=g.trans g2
   refine⟨pr,_,rfl,SqT.of ep,rfl,_,_,rfl,_,_,rfl,rfl,?_⟩
   refine⟨_,rfl,_,rfl,_,rfl,_,rfl,lw,_,rfl,SqL.of (gg2 _ _ hlw),fun p1 hp1=>?_⟩
   rw[y2s (by lia) (by rw[q0a,hts.1];lia),q0J,←List.map_take]
   have g4:=z0f hp1 (.lst ((as.take i).map V.ref))
   have e4:upd H2 p1 (.lst ((as.take i).map V.ref)) p1=some (.lst ((as.take i).map V.ref)):=z0d
   generalize upd H2 p1 (.lst ((as.take i).map V.ref))=H4 at*
   have gg4:=gg2.trans g4
   have g24:=g2.trans g4
   have hts4:TsA H4 (as.take i) (ts.take i):=⟨by rw[q0o,q0o,hts.1],fun j a' t' e1 e2=>by
        have hj:j<i:=by
         have:=(q0t.mp e2).1
         rw[q0o] at this;lia
        rw[q1s hj] at e1 e2
        exact gg4 _ _ (hts.2 j a' t' e1 e2)⟩
   have dl:ds.length≤1000:=by
        have h1:=z5F m ts i
        rw[←hsg,q0a] at h1
        exact q0p h1 (q0p (Nat.pow_le_pow_right (by decide) (show i≤8 by lia)) (by decide))
   refine⟨_,rfl,_,rfl,m,p1,r,a,as.take i,ts.take i,xs,ds,t,b,c,rfl,e4,hts4,g24 _ _ er,hE.imp fun _ _ h=>LandAt.same h g24,gg4 _ _ (hts.2 i a t ha et),fun u hu=>?_,hG,hlim,m4,by rw[q0o];lia,dl,fun r5 xs5 ds5 H5 hr5 g5 er5 hE5 hG5 hs5=>?_⟩
   ·rw[←tk] at hu;exact hB u (q1t hu)
   ·refine⟨r5,xs5,ds5,_,_,gg4.free hr5,rfl,gg4.trans g5,er5,hE5,by rw[tk];exact hG5,?_⟩
    rw[hs5,hsg,esg]
  ·rintro σ H1 ⟨r,xs,ds,s3,s4,hr1,rfl,g,er,hE,hG,hsg⟩
   rw[q0a,hts.1] at hG hsg
   rw[q0T] at hG
   exact hN _ _ ⟨r,xs,ds,_,_,hr1,rfl,g,er,hE,hG,hsg⟩
 clear e0 g0 hr0 hE0 hG0 hs0
 rintro σ H1 ⟨r,xs,ds,s3,s4,hr1,rfl,g,er,hE,hG,hsg⟩
 exact⟨_,rfl,q r xs ds H1 hr1 g er hE hG hsg⟩
def LandPt (H:Hp) (m:Nat) (d:LandD) (x:V):Prop:=∃p pp bs,x= .ref p∧H p=some (.tup [.ref d.a,.ref pp])∧H d.a=some (.tup (d.sg.map V.int))∧H pp=some (.tup (bs.map V.ref))∧TsA H bs (d.sp.dropLast.map fun t=>y2D t (v d.sp m))
theorem LandPt.same {H H':Hp}{m:Nat}{d:LandD}{x:V} (h:LandPt H m d x) (g:Same H H'):LandPt H' m d x:=by
 obtain⟨p,pp,bs,e,h1,h2,h3,h4⟩:=h
 exact⟨p,pp,bs,e,g _ _ h1,g _ _ h2,g _ _ h3,h4.same g⟩
abbrev z3m:Stmt:=top 37
theorem y2Q:z0q ["ways","walls"] ["ways","walls"] (z0i z3m):=⟨rfl,rfl,rfl,by decide+kernel,rfl,by decide+kernel,by decide+kernel⟩
def z7z (K:PySem.W.Frag):Sp:=fun vs H Q _=>∃(m:Nat) (lw:Addr) (as:List Addr) (ts:List (List Int)) (b c:Nat),vs=[.int (m:Nat),.ref lw]∧H lw=some (.lst (as.map V.ref))∧TsA H as ts∧(∀u∈ts,Bd m b c u)∧z6W m b c=true∧m≤4∧ts.length≤8∧
 ∀(r:Addr) (xs:List V) (ds:List LandD) (H':Hp),H r=none→Same H H'→H' r=some (.lst xs)→Each (LandPt H' m) ds xs→(∀d∈ds,z2Y m b c ts d)→ds.map LandD.sg=sgN m ts ts.length→Q (.ref r) H'
theorem z8N (T:Txt mg) (F:Fun K "lands" "lands" z3m f fd) (c_land_spots:Cal P w K mg base 17 "land_spots" ["ways","walls"] (y0v K)) (c_point_of:Cal P w K mg base 17 "point_of" ["spot"] (y0z K)):FnOk P w K mg base CX0 18 f fd ["ways","walls"] (z7z K):=by
 refine F.ok y2Q (fun vs H Q E h=>?_) (fun cdv A outer s H vs Q E hr h=>?_)
 ·obtain⟨_,_,_,_,_,_,rfl,_⟩:=h;rfl
 obtain⟨m,lw,as,ts,b,c,rfl,hlw,hts,hB,hlim,m4,n8,q⟩:=h
 refine⟨_,(z0e (z0o (z0L (Nc:=["signs","spot"]) (fr:=[none,none]) rfl (z0D (K:=K) rfl (z0m c_land_spots hr rfl (z0a (pv 0) (z0a (pv 1) z0c)))) rfl (by decide) rfl (by decide) rfl trivial trivial (fun _ _ _ _=>(z0S (K:=K) rfl 2 rfl (z0u (z0k (i:=0) (show List.Nodup (["signs","spot"]:List Str) from by decide) rfl (Or.inl rfl)) (z0u (z0k (i:=1) (show List.Nodup (["signs","spot"]:List Str) from by decide) rfl (Or.inl rfl)) z0R)))) (fun _ _ _ _=>z0K) (fun _ _ _ _=>(z1P (z0a (pv 0) (z0a (z0m c_point_of hr rfl (z0a (pv 1) z0c)) z0c))))))),?_⟩
 refine⟨_,rfl,_,rfl,m,lw,as,ts,b,c,rfl,hlw,hts,hB,hlim,m4,n8,fun r xs ds H1 hr1 g1 er hE hG hsg=>?_⟩
 have hS:=z9R hlim
 have dl:ds.length≤1000:=by
  have h1:=z5F m ts ts.length
  rw[←hsg,q0a] at h1
  exact q0p h1 (q0p (Nat.pow_le_pow_right (by decide) n8) (by decide))
 refine⟨r,rfl,⟨_,SqL.of er⟩,fun D hD=>?_⟩
 refine z0X ds hE.length.symm (z0z K r xs) hD (fun d σ=>(σ.set 0 (some (.ref d.a))).set 1 (some (.ref d.q))) (fun d e σ=>z1M _ _ _ _ _) (fun _=>true) (fun H' d u=>LandPt H' m d u) ?_ (fun H' g'=>SqL.of (g' _ _ er)) (z0j (by rw[←hE.length];lia)) ?_ ?_ ?_ ?_
 ·rintro H2 H3 d u k ⟨acc,hd⟩ ⟨p,pp,bs,e,h1,h2,h3,h4⟩
  exact⟨p,pp,bs,e,k _ _ (fun z=>by rw[z,hd] at h1;cases h1) h1,k _ _ (fun z=>by rw[z,hd] at h2;cases h2) h2,k _ _ (fun z=>by rw[z,hd] at h3;cases h3) h3,h4.1,fun i a t ea et=>k _ _ (fun z=>by have:=h4.2 i a t ea et;rw[z,hd] at this;cases this) (h4.2 i a t ea et)⟩
 ·intro i x d hx hd σ H2 g2 S h
  obtain⟨p,rfl,h1,_⟩:=(hE.get hd hx).same g2
  exact⟨p,_,rfl,SqT.of h1,rfl,_,_,rfl,_,_,rfl,rfl,h⟩
 ·intro d hd Hc gc S h
  exact h _ (Same.refl _)
 ·intro d hd _ Hc gc _ S h
  obtain⟨x,hx⟩:∃x,LandAt H1 d x:=by
   obtain⟨i,hi,e⟩:=q0I.mp hd
   have hi2:i<xs.length:=by rw[←hE.length];exact hi
   exact⟨xs[i],hE.get (by rw[q0c hi,e]) (q0c hi2)⟩
  obtain⟨p,rfl,h1,h2,h3⟩:=hx.same gc
  have gd:=hG d hd
  refine⟨_,rfl,_,rfl,d.q,d.sp,m,rfl,h3,gd.win.1,by lia,fun n hn=>z0t (gd.bits n hn) (by lia),fun pp bs H2 hpp g2 epp hbs=>?_⟩
  refine⟨z0j (by show 2≤_;decide),fun z hz=>?_⟩
  have g3:=z0f hz (.tup [V.ref d.a,V.ref pp])
  exact h _ _ (g2.trans g3) ⟨z,pp,bs,rfl,z0d,(g2.trans g3) _ _ h2,g3 _ _ epp,hbs.same g3⟩
 ·intro us H2 g2 hD2 he
  rw[z0C] at he
  exact q D us ds H2 (g1.free hD) (g1.trans g2) hD2 he hG hsg
end
end L2
namespace L2
open PySem PySem.Spec PyProof.Rows
section
open Fr Wl Rk Pt Ld
open Builtin.Int (intBits)
variable {P:Program}{w:World}{K:PySem.W.Frag}{mg:Str→Option Value}{base:Heap}{f:Addr}{fd:FuncData}
abbrev z3p:Stmt:=top 15
theorem z7G:z0q ["number"] ["number"] (z0i z3p):=⟨rfl,rfl,rfl,by decide+kernel,rfl,by decide+kernel,by decide+kernel⟩
theorem z7W (T:Txt mg) (F:Fun K "is_whole" "is_whole" z3p f fd):FnOk P w K mg base CX0 1 f fd ["number"] z3V:=by
 refine F.ok z7G (fun vs H Q E h=>?_) (fun cdv A outer s H vs Q E hr h=>?_)
 ·obtain⟨_,rfl,_⟩:=h;rfl
 obtain⟨i,rfl,q⟩:=h
 refine⟨_,(z0e (z0o (y1l (z0x z1b rfl T.isinstance boot_isinstance (z0a (pv 0) (z0a (z2m (v:= .ty "int") rfl T.int boot_int rfl) z0c))) (z8L (y4d (z0x z1b rfl T.isinstance boot_isinstance (z0a (pv 0) (z0a (z2m (v:= .ty "bool") rfl T.bool boot_bool rfl) z0c)))))))),?_⟩
 exact⟨_,rfl,_,_,_,_,rfl,.int i,rfl,_,rfl,z4N ⟨_,rfl,_,_,_,_,rfl,.int i,rfl,_,rfl,q⟩⟩
def z5s (m:Nat) (ts:List (List Int)) (sg:List Int):Prop:=sg.length=ts.length∧Sgn sg∧y2F m ts sg
def inS (n:Int):Bool:=inV (V.int n) [V.int (-1),V.int 1]
theorem y1V (n:Int):inS n=true↔n=1∨n= -1:=by
 unfold inS inV
 show ((((-1:Int)==n) || (((1:Int)==n) || false))=true)↔_
 rw[Bool.or_false,Bool.or_eq_true,beq_iff_eq,beq_iff_eq]
 lia
theorem y2z (sg:List Int):((sg.map fun n=>V.bl (inS n)).all trV=true)↔Sgn sg:=by
 rw[List.all_map,List.all_eq_true]
 constructor
 ·exact fun h x hx=>(y1V x).mp (h x hx)
 ·exact fun h x hx=>(y1V x).mpr (h x hx)
abbrev z4j:Stmt:=top 39
theorem z9s:z0q ["ways","walls","signs"] ["ways","walls","signs"] (z0i z4j):=⟨rfl,rfl,rfl,by decide+kernel,rfl,by decide+kernel,by decide+kernel⟩
structure WsA (K:PySem.W.Frag) (H:Hp) (m:Nat) (lw:Addr) (as:List Addr) (ts:List (List Int)) (b c:Nat):Prop where
 lst:H lw=some (.lst (as.map V.ref))
 rows:TsA H as ts
 bd:∀u∈ts,Bd m b c u
 lim:z6W m b c=true
 m4:m≤4
 n8:ts.length≤8
theorem WsA.same {H H':Hp}{m:Nat}{lw:Addr}{as:List Addr}{ts:List (List Int)}{b c:Nat} (h:WsA K H m lw as ts b c) (g:Same H H'):WsA K H' m lw as ts b c:=⟨g _ _ h.lst,h.rows.same g,h.bd,h.lim,h.m4,h.n8⟩
open Classical in
noncomputable def z8A (K:PySem.W.Frag):Sp:=fun vs H Q _=>∃(m:Nat) (lw q:Addr) (as:List Addr) (ts:List (List Int)) (sg:List Int) (b c:Nat),vs=[.int (m:Nat),.ref lw,.ref q]∧WsA K H m lw as ts b c∧H q=some (.tup (sg.map V.int))∧sg.length≤30∧∀H',Same H H'→Q (.bl (decide (z5s m ts sg))) H'
open Classical in
theorem z9I (T:Txt mg) (F:Fun K "is_land" "is_land" z4j f fd) (c_is_whole:Cal P w K mg base 16 "is_whole" ["number"] z3V) (c_bounds_at:Cal P w K mg base 16 "bounds_at" ["walls","signs"] (z3K K)) (c0:∀m,m≤4→Cal P w K mg base 16 "spot_within" ["ways","bounds"] (z7x K (m+1))):FnOk P w K mg base CX0 17 f fd ["ways","walls","signs"] (z8A K):=by
 refine F.ok z9s (fun vs H Q E h=>?_) (fun cdv A outer s H vs Q E hr h=>?_)
 ·obtain⟨_,_,_,_,_,_,_,_,rfl,_⟩:=h;rfl
 obtain⟨m,lw,q',as,ts,sg,b,c,rfl,hW,hq,s30,q⟩:=h
 have c_spot_within:=c0 m hW.m4
 have m4:=hW.m4
 have n8:=hW.n8
 refine⟨_,(z0b (z0J (z0A z4Q (z0x (z0M (K:=K) rfl) rfl T.len PySem.boot_len (z0a (pv 2) z0c)) (z0x (z0M (K:=K) rfl) rfl T.len PySem.boot_len (z0a (pv 1) z0c)) (z0F _)) (z0e (z0o z1r)) z0y)
  (z0b (z0J (z1e (z0W (z0x (y2w (K:=K) rfl rfl) rfl T.all boot_all (z0a (z0L (Nc:=["sign"]) (fr:=[none]) rfl (z4p (K:=K) rfl (pv 2)) rfl (by decide) rfl (by decide) rfl trivial trivial (fun _ _ _ _=>(z0k (i:=0) (show List.Nodup (["sign"]:List Str) from by decide) rfl (Or.inl rfl))) (fun _ _ _ _=>z0K) (fun _ _ _ _=>(y1l (z0m c_is_whole hr rfl (z0a (pv 0) z0c)) (z8L (z7P (y6y (K:=K) rfl) (pv 0) (z1P (z0a (z1E z1c z0g) (z0a z0g z0c))) (by with_unfolding_all rfl)))))) z0c)))) (z0e (z0o z1r)) z0y)
  (z0e (z0o (y6q (z5T (z0m c_spot_within hr rfl (z0a (pv 0) (z0a (z0m c_bounds_at hr rfl (z0a (pv 1) (z0a (pv 2) z0c))) z0c))))))))),?_⟩
 obtain⟨b2,c2⟩:=z4z hW.lim
 have no:¬z5s m ts sg→∀H',Same H H'→Q (.bl false) H':=fun h H' g=>by
  have:=q H' g
  rw[decide_eq_false h] at this
  exact this
 refine z0w (fun σ H'=>σ=[some (.int (m:Nat)),some (.ref lw),some (.ref q')]∧H=H'∧sg.length=ts.length) (fun N hN=>?_) ?_
 ·refine⟨_,rfl,q',_,rfl,.inr (SqT.of hq),_,rfl,lw,_,rfl,.inl (SqL.of hW.lst),rfl,_,rfl,?_⟩
  rw[q0a,q0a,hW.rows.1]
  refine z3i (fun cc=>?_) (fun cc=>?_)
  ·refine no (fun h=>?_) _ (Same.refl _)
   rw[h.1] at cc
   simp at cc
  ·have:(((sg.length:Nat):Int))=((ts.length:Nat):Int):=by
        have h2:V.int ((sg.length:Nat):Int)=V.int ((ts.length:Nat):Int):=q0l fun z=>cc (by rw[decide_eq_false z];rfl)
        injection h2
   exact hN _ _ ⟨rfl,rfl,by lia⟩
 rintro σ H0 ⟨rfl,rfl,hl⟩
 refine z0w (fun σ H'=>σ=[some (.int (m:Nat)),some (.ref lw),some (.ref q')]∧Same H H'∧Sgn sg) (fun N hN=>?_) ?_
 ·refine⟨_,rfl,q',rfl,⟨_,SqT.of hq⟩,fun D hD=>?_⟩
  refine z0X sg (by rw[q0a]) (z2H K q' (sg.map V.int)) hD (fun n σ=>σ.set 0 (some (.int n))) (fun d e σ=>List.set_set ..) (fun _=>true) (fun H' n u=>u= .bl (inS n)) (fun _ _ _ _ _ _ h=>h) (fun H' g'=>SqT.of (g' _ _ hq)) (z0j (by rw[q0a];lia)) ?_ ?_ ?_ ?_
  ·intro i x d hx hd σ H2 g2 S h
   rw[q0h,hd] at hx
   cases hx
   exact h
  ·intro d hd Hc gc S h
   exact h _ (Same.refl _)
  ·intro d hd _ Hc gc _ S h
   refine⟨_,rfl,d,rfl,_,rfl,?_⟩
   refine z4N ?_
   refine⟨_,rfl,_,rfl,z0j (by show 2≤_;decide),fun z hz=>?_⟩
   exact⟨z,_,rfl,.inr (SqT.of z0d),rfl,rfl,h _ _ (z0f hz _) rfl⟩
  ·intro us H1 g1 hD1 he
   rw[z0C] at he
   have eu:us=sg.map fun n=>V.bl (inS n):=by
        clear hD1 hq hl s30 q no hN
        induction he with
        |nil=>rfl
        |cons h1 _ ih=>rw[h1,ih];rfl
   subst eu
   refine⟨D,_,rfl,.inl (SqL.of hD1),fun y hy=>(by obtain⟨n,_,rfl⟩:=q0g.mp hy;trivial),_,rfl,?_⟩
   by_cases hs:Sgn sg
   ·rw[(y2z sg).mpr hs]
    refine z1I ?_
    exact hN _ _ ⟨rfl,g1,hs⟩
   ·have h0:(sg.map fun n=>V.bl (inS n)).all trV=false:=by
     cases z:(sg.map fun n=>V.bl (inS n)).all trV with
     |false=>rfl
     |true=>exact absurd ((y2z sg).mp z) hs
    rw[h0]
    refine z4N ?_
    exact no (fun h=>hs h.2.1) _ g1
 rintro σ H1 ⟨rfl,g1,hs⟩
 have hW1:=hW.same g1
 refine⟨_,rfl,_,rfl,_,rfl,lw,q',as,ts,sg,rfl,hW1.lst,hW1.rows,g1 _ _ hq,hl.symm,hs,by lia,fun u hu=>⟨by rw[(hW.bd u hu).len];lia,fun n hn=>z0t ((hW.bd u hu).all n hn) (by lia)⟩,fun rb bs H2 hrb g2 erb hbs=>?_⟩
 refine⟨m,rb,bs,bdL ts sg,b,c,rfl,rfl,erb,hbs,y5J hW.bd hs,hW.lim,by lia,by unfold bdL;rw[List.length_zipWith];lia,fun r3 sp H3 hr3 g3 er3 hw3 hb3=>?_,fun H3 g3 hno=>?_⟩
 ·have:=q H3 (g1.trans (g2.trans g3))
  rw[decide_eq_true (show z5s m ts sg from⟨hl,hs,sp,hw3⟩)] at this
  exact this
 ·exact no (fun h=>hno h.2.2) _ (g1.trans (g2.trans g3))
end
end L2
namespace L2
open PySem PySem.Spec PyProof.Rows
section
open Fr Wl Rk Pt Ld
open Builtin.Int (intBits)
variable {P:Program}{w:World}{K:PySem.W.Frag}{mg:Str→Option Value}{base:Heap}{f:Addr}{fd:FuncData}
abbrev z2h:Stmt:=top 41
theorem sc_way_along:z0q ["ways","bounds","bound","way","row","found"] ["ways","bounds","bound","way"] (z0i z2h):=⟨rfl,rfl,rfl,by decide+kernel,rfl,by decide+kernel,by decide+kernel⟩
abbrev z1V:Stmt:=top 42
theorem sc_way_within:z0q ["ways","bounds","way","place","bound"] ["ways","bounds"] (z0i z1V):=⟨rfl,rfl,rfl,by decide+kernel,rfl,by decide+kernel,by decide+kernel⟩
abbrev y6Z (m:Nat) (bs:List (List Int)) (k:Nat) (H:Hp) (Q:VK):Prop:=
 (∀(r:Addr) (d:List Int) (H':Hp),H r=none→Same H H'→H' r=some (.lst (d.map V.int))→Wy m bs d→(∀n∈d,intBits n≤k)→Q (.ref r) H')∧(∀H',Same H H'→¬PWy m bs→Q .non H')
def z3W (K:PySem.W.Frag) (k:Nat):Sp:=fun vs H Q _=>∃(m:Nat) (l:Addr) (as:List Addr) (bs:List (List Int)) (b c:Nat),k=m+1∧vs=[.int (m:Nat),.ref l]∧H l=some (.lst (as.map V.ref))∧LsA H as bs∧(∀r∈bs,Bd m b c r)∧z6W m b c=true∧m≤5∧bs.length≤100∧y6Z m bs (Sb m b c) H Q
def z8v (K:PySem.W.Frag) (k:Nat):Sp:=fun vs H Q _=>∃(m:Nat) (l ab q:Addr) (as:List Addr) (bs:List (List Int)) (bd d0:List Int) (b c:Nat),k=m+1∧vs=[.int (m:Nat),.ref l,.ref ab,.ref q]∧H l=some (.lst (as.map V.ref))∧LsA H as bs∧H ab=some (.lst (bd.map V.int))∧H q=some (.lst (d0.map V.int))∧(∀r∈bs,Bd m b c r)∧Bd m b c bd∧z6W m b c=true∧m≤5∧bs.length≤100∧Wy m bs d0∧hg m (v bd) (v d0)<0∧(∀n∈d0,intBits n≤Sb m b c)∧y6Z m (bs++[bd]) (Sb m b c) H Q
theorem y1t (T:Txt mg) (F:Fun K "way_along" "way_along" z2h f fd) (n:Nat) (c_height:Cal P w K mg base (6+2*n) "height" ["bound","spot"] (z1B K)) (c_turned:Cal P w K mg base (6+2*n) "turned" ["numbers","sign"] (z2g K)) (c_lead:Cal P w K mg base (6+2*n) "lead" ["bound"] (z6B K)) (c_drawn:Cal P w K mg base (6+2*n) "drawn" ["rows","numbers"] (z3Y K)) (c_lifted:Cal P w K mg base (6+2*n) "lifted" ["rows","spot"] (z2Z K)) (c_way_within:Cal P w K mg base (6+2*n) "way_within" ["ways","bounds"] (z3W K n)):FnOk P w K mg base CX0 (6+2*n+1) f fd ["ways","bounds","bound","way"] (z8v K (n+1)):=by
 refine F.ok sc_way_along (fun vs H Q E h=>?_) (fun cdv A outer s H vs Q E hr h=>?_)
 ·obtain⟨_,_,_,_,_,_,_,_,_,_,_,rfl,_⟩:=h;rfl
 obtain⟨m,l,ab,qd,as,bs,bd,d0,b,c,hk,rfl,hl,hls,hab,hqd,hB,hbd,hlim,m5,n100,hW0,hh0,db,q1,q2⟩:=h
 obtain rfl:n=m:=by lia
 refine⟨_,(z0b (z0J (z1e (z0W (z0x (z1S (K:=K) rfl rfl) rfl T.any boot_any (z0a (z0L (Nc:=["other","way"]) (fr:=[none,some 3]) rfl (z0D (K:=K) rfl (pv 1)) rfl (by decide) rfl (by decide) rfl ⟨rfl,trivial⟩ ⟨⟨rfl,rfl,rfl,rfl⟩,trivial⟩ (fun _ _ _ _=>(z0k (i:=0) (show List.Nodup (["other","way"]:List Str) from by decide) rfl (Or.inl rfl))) (fun _ _ _ _=>z0K) (fun _ _ _ _=>(z0m c_height hr rfl (z0a (pv 0) (z0a (pv 1) z0c))))) z0c)))) (z0e (z0o (z0m c_turned hr rfl (z0a (pv 3) (z0a (z1E z1c z0g) z0c))))) z0y)
  (z0b (z0p (i:=4) sc_way_along.nd rfl (Or.inr rfl) (z0m c_turned hr rfl (z0a (pv 2) (z0a (z0m c_lead hr rfl (z0a (pv 2) z0c)) z0c))))
  (z0b (z0p (i:=5) sc_way_along.nd rfl (Or.inl rfl) (z0m c_way_within hr rfl (z0a (z0v z2p (pv 0) z0g) (z0a (z0L (Nc:=["other","row"]) (fr:=[none,some 4]) rfl (z0D (K:=K) rfl (pv 1)) rfl (by decide) rfl (by decide) rfl ⟨rfl,trivial⟩ ⟨⟨rfl,rfl,rfl,rfl⟩,trivial⟩ (fun _ _ _ _=>(z0k (i:=0) (show List.Nodup (["other","row"]:List Str) from by decide) rfl (Or.inl rfl))) (fun _ _ _ _=>z0K) (fun _ _ _ _=>(z0m c_drawn hr rfl (z0a (z0O (z0a (pv 1) z0c)) (z0a (pv 0) z0c))))) z0c))))
  (z0e (z0o (z3M (z3b (z5i (pv 5))) z3C (z0m c_lifted hr rfl (z0a (z0O (z0a (pv 4) z0c)) (z0a (pv 5) z0c))))))))),?_⟩
 obtain⟨b2,c2⟩:=z4z hlim
 have hS:=z9R hlim
 have hfp:=z9k hbd.len hW0.1 hh0
 obtain⟨m,rfl⟩:∃k,n=k+1:=⟨n - 1,by lia⟩
 obtain⟨hS2,hlim'⟩:=z6c hlim
 have bl:=hbd.len
 have bnz:∃n∈bd,n≠0:=z6T (by lia)
 have ft:=z3y bnz (z0U bd)
 have hBt:=hbd.turn (z0U bd)
 have tnz:∃n∈z0s (ldL bd) bd,n≠0:=z1Y (j:=fp bd) (by rw[z1A];have:=z2O bnz;lia)
 have tpos:0<v (z0s (ldL bd) bd) (fp (z0s (ldL bd) bd)):=by rw[z1A,ft];exact z2O bnz
 have hrl:∀u∈bs,u.length=m+2:=fun u hu=>(hB u hu).len
 refine z0w (fun σ H'=>∃s4 s5,σ=[some (.int ((m+1:Nat):Int)),some (.ref l),some (.ref ab),some (.ref qd),s4,s5]∧Same H H'∧∃u∈bs,hg (m+1) (v u) (v d0)≠0) (fun N hN=>?_) ?_
 ·refine⟨_,rfl,l,rfl,⟨_,SqL.of hl⟩,fun D hD=>?_⟩
  refine z0X (as.zip bs) (by rw[q0a,q0Q,hls.1];lia) (z0z K l (as.map V.ref)) hD (fun e σ=>σ.set 0 (some (.ref e.1))) (fun d e σ=>List.set_set ..) (fun _=>true) (fun H' e u=>u= .int (hg (m+1) (v e.2) (v d0))) (fun _ _ _ _ _ _ h=>h) (fun H' g'=>SqL.of (g' _ _ hl)) (z0j (by rw[q0a,hls.1];lia)) ?_ ?_ ?_ ?_
  ·intro i x e hx he σ H2 g2 S h
   rw[q0K] at he
   rw[q0h,he.1] at hx
   cases hx
   exact h
  ·intro d hd Hc gc S h
   exact h _ (Same.refl _)
  ·intro e he _ Hc gc _ S h
   obtain⟨i,hi⟩:=List.mem_iff_getElem?.mp he
   rw[q0K] at hi
   have hBr:=hB e.2 (q0E hi.2)
   exact⟨_,rfl,_,rfl,e.1,qd,e.2,d0,m+1,rfl,gc _ _ (hls.2 i _ _ hi.1 hi.2),gc _ _ hqd,hBr.len,hW0.1.1,by lia,fun n hn=>z0t (hBr.all n hn) (by lia),fun n hn=>z0t (db n hn) (by lia),fun H' g'=>h _ _ g' rfl⟩
  ·intro us H1 g1 hD1 he
   rw[z0C] at he
   have eu:us=(bs.map fun u=>hg (m+1) (v u) (v d0)).map V.int:=by
        have:us=((as.zip bs).map fun e=>hg (m+1) (v e.2) (v d0)).map V.int:=by
         clear hD1 hN
         generalize as.zip bs=zs at he
         induction he with
         |nil=>rfl
         |cons h1 _ ih=>rw[h1,ih];rfl
        rw[this]
        congr 1
        have e2:(as.zip bs).map (fun e=>hg (m+1) (v e.2) (v d0))=((as.zip bs).map Prod.snd).map fun u=>hg (m+1) (v u) (v d0):=by rw[q0C];rfl
        rw[e2,List.map_snd_zip (by rw[hls.1];exact q0j _)]
   subst eu
   refine⟨D,_,rfl,.inl (SqL.of hD1),z1G _,_,rfl,?_⟩
   by_cases hany:∃n∈bs.map (fun u=>hg (m+1) (v u) (v d0)),n≠0
   ·rw[(z1w _).mpr hany]
    refine z1I ?_
    obtain⟨n,hn,n0⟩:=hany
    obtain⟨u,hu,rfl⟩:=q0g.mp hn
    exact hN _ _ ⟨_,_,rfl,g1,u,hu,n0⟩
   ·have h0:((bs.map fun u=>hg (m+1) (v u) (v d0)).map V.int).any trV=false:=by
     cases z:((bs.map fun u=>hg (m+1) (v u) (v d0)).map V.int).any trV with
     |false=>rfl
     |true=>exact absurd ((z1w _).mp z) hany
    rw[h0]
    refine z4N ?_
    have hz:∀u∈bs,hg (m+1) (v u) (v d0)=0:=fun u hu=>q0l fun z=>hany ⟨_,q0G hu,z⟩
    have hw:=y0g hW0 hz hh0
    refine⟨_,rfl,_,rfl,qd,d0,-1,rfl,.inl (SqL.of (g1 _ _ hqd)),by rw[hW0.1.1];lia,.inr rfl,fun n hn=>z0t (db n hn) (by lia),fun r H' hr g' e'=>?_⟩
    refine q1 r _ H' (g1.free hr) (g1.trans g') e' hw fun n hn=>?_
    unfold z0s at hn
    obtain⟨x,hx,rfl⟩:=q0g.mp hn
    exact z5E (.inr rfl) (db x hx)
 rintro σ H1 ⟨s4,s5,rfl,g1,hsome⟩
 refine z0w (fun σ H'=>∃ar s5,σ=[some (.int ((m+1:Nat):Int)),some (.ref l),some (.ref ab),some (.ref qd),some (.ref ar),s5]∧Same H H'∧H' ar=some (.lst ((z0s (ldL bd) bd).map V.int))) (fun N hN=>?_) ?_
 ·refine⟨_,rfl,_,rfl,ab,bd,rfl,g1 _ _ hab,by lia,bnz,fun H2 g2=>?_⟩
  exact⟨ab,bd,ldL bd,rfl,.inl (SqL.of ((g1.trans g2) _ _ hab)),by lia,z0U bd,fun n hn=>z0t (hbd.all n hn) (by lia),fun r H' hr g' e'=>hN _ _ ⟨r,_,rfl,g1.trans (g2.trans g'),e'⟩⟩
 clear g1
 rintro σ H1 ⟨ar,s5',rfl,g1,ear⟩
 have hl1:=g1 _ _ hl
 have hls1:=hls.same g1
 refine z0w (fun σ H'=>Same H H'∧((∃rf fs,σ=[some (.int ((m+1:Nat):Int)),some (.ref l),some (.ref ab),some (.ref qd),some (.ref ar),some (.ref rf)]∧H' rf=some (.lst (fs.map V.int))∧H' ar=some (.lst ((z0s (ldL bd) bd).map V.int))∧Wy m (bs.map (drR (z0s (ldL bd) bd))) fs∧∀n∈fs,intBits n≤Sb m (2*b+1) (b+c+1))∨(σ=[some (.int ((m+1:Nat):Int)),some (.ref l),some (.ref ab),some (.ref qd),some (.ref ar),some .non]∧¬PWy m (bs.map (drR (z0s (ldL bd) bd)))))) (fun N hN=>?_) ?_
 ·refine⟨_,rfl,_,_,rfl,rfl,_,rfl,l,rfl,⟨_,SqL.of hl1⟩,fun D hD=>?_⟩
  refine z3z rfl (z0z K l (as.map V.ref)) hD (fun _=>true) (fun H' x u=>∃(a:Addr) (t:List Int) (p:Addr),x=V.ref a∧u=V.ref p∧H1 a=some (.lst (t.map V.int))∧H' p=some (.lst ((drR (z0s (ldL bd) bd) t).map V.int))∧p≠D) ?_ (fun H' g'=>SqL.of (g' _ _ hl1)) (z0j (by rw[q0a,hls.1];lia)) ?_ ?_ ?_
  ·rintro H2 H3 x u k ⟨acc,hd⟩ ⟨a,t,p,e1,e2,e3,e4,e5⟩
   exact⟨a,t,p,e1,e2,e3,k _ _ e5 e4,e5⟩
  ·intro x hx Hc gc S h
   exact h _ (Same.refl _)
  ·rintro x hx _ Hc gc ⟨acc,hacc⟩ S h
   obtain⟨a,ha,rfl⟩:=q0g.mp hx
   obtain⟨i,hi,rfl⟩:=q0I.mp ha
   have hi2:i<bs.length:=by rw[←hls.1];exact hi
   have hc:=hls1.2 i _ _ (q0c hi) (q0c hi2)
   have htm:bs[i]∈bs:=q0A hi2
   generalize bs[i]=t at hc htm
   have hBr:=hB t htm
   refine⟨_,rfl,z0j (by show 1≤_;decide),fun z hz=>?_⟩
   have g2:=z0f hz (.lst [V.ref ar])
   refine⟨_,rfl,z,_,ar,z0s (ldL bd) bd,t,2000,rfl,z0d,g2 _ _ (gc _ _ ear),.inl (SqL.of (g2 _ _ (gc _ _ hc))),by rw[hBr.len,hBt.len],by rw[hBt.len];lia,tnz,fun n hn=>z0t (hBt.all n hn) (by lia),fun n hn=>z0t (hBr.all n hn) (by lia),by decide,fun r H3 hr3 _ g3 e3=>?_⟩
   exact h _ _ (g2.trans g3) ⟨_,t,r,rfl,rfl,hc,e3,fun z=>by rw[z] at hr3;have:=g2 _ _ hacc;rw[hr3] at this;cases this⟩
  ·intro us H2 g2 hD2 he
   rw[z0C] at he
   obtain⟨as1,rfl,hL1,hL2⟩:=z7h (G:= .lst) (F:= .lst) (g:=drR (z0s (ldL bd) bd)) (fun xs ys h=>by injection h) hls1.1 hls1.2 (he.imp fun x u ⟨a,t,p,e1,e2,e3,e4,_⟩=>⟨a,t,p,e1,e2,e3,e4⟩)
   refine⟨m,D,as1,bs.map (drR (z0s (ldL bd) bd)),2*b+1,b+c+1,rfl,?_,hD2,⟨hL1,hL2⟩,fun r hr=>?_,hlim',by lia,by rw[q0a];lia,fun rf fs H3 hrf g3 erf hWf hbf=>?_,fun H3 g3 hno=>?_⟩
   ·show [V.int _,V.ref D]=_
    congr 2
    lia
   ·obtain⟨u,hu,rfl⟩:=q0g.mp hr
    exact hBt.draw (hB u hu) (by lia) tnz
   ·exact hN _ _ ⟨g1.trans (g2.trans g3),.inl ⟨rf,fs,rfl,erf,(g2.trans g3) _ _ ear,hWf,hbf⟩⟩
   ·exact hN _ _ ⟨g1.trans (g2.trans g3),.inr ⟨rfl,hno⟩⟩
 clear g1 hl1 hls1 ear
 rintro σ H1 ⟨g1,⟨rf,fs,rfl,erf,ear,hWf,hbf⟩|⟨rfl,hno⟩⟩
 ·refine⟨_,rfl,_,rfl,?_⟩
  refine z1I ?_
  have e0:Sb (m+1) b c=b+2*(max b c+Sb m (2*b+1) (b+c+1)+m+3)+4:=rfl
  refine⟨_,rfl,z0j (by show 1≤_;decide),fun z hz=>?_⟩
  have g2:=z0f hz (.lst [V.ref ar])
  have e2:upd H1 z (.lst [V.ref ar]) z=some (.lst [V.ref ar]):=z0d
  generalize upd H1 z (.lst [V.ref ar])=H2 at*
  obtain⟨j,hj,hjn⟩:=hWf.1.2.2
  refine⟨_,rfl,z,rf,ar,z0s (ldL bd) bd,fs,m,b,c,Sb m (2*b+1) (b+c+1),rfl,e2,g2 _ _ ear,g2 _ _ erf,hBt,by rw[ft];lia,tpos,hWf.1.1,⟨j,hjn⟩,hbf,b2,c2,by lia,by lia,fun r3 H3 hr3 g3 e3=>?_⟩
  have g13:=g1.trans (g2.trans g3)
  have hub:=z7w hBt (by rw[ft];lia) hWf.1.1 hbf
  have unz:∃n∈upL (m+1) (z0s (ldL bd) bd) fs,n≠0:=by
   refine z1Y (j:=skp (fp (z0s (ldL bd) bd)) j) ?_
   rw[z3A hWf.1.1 (by rw[ft];lia)]
   exact q0X (by lia) hjn
  exact q1 r3 _ H3 ((g1.trans g2).free hr3) g13 e3 (y0h bl hrl (by lia) hWf) fun n hn=>z0t (z6b unz hub n hn) (by lia)
 ·refine⟨_,rfl,_,rfl,?_⟩
  refine z4N ?_
  exact q2 _ g1 (y0i bl hrl hW0 hh0 hsome hno)
end
end L2
namespace L2
open PySem PySem.Spec PyProof.Rows
section
open Fr Wl Rk Pt Ld
open Builtin.Int (intBits)
variable {P:Program}{w:World}{K:PySem.W.Frag}{mg:Str→Option Value}{base:Heap}{f:Addr}{fd:FuncData}
def y4e (m:Nat):List Int:=1::List.replicate m 0
theorem y3i (m:Nat):Way (m+1) (y4e (m+1)):=by
 refine⟨by unfold y4e;simp,?_,0,by lia,show (1:Int)≠0 by decide⟩
 show (y4e (m+1)).getD (m+1) 0=0
 unfold y4e
 rw[q0b,List.getElem?_cons_succ,List.getElem?_replicate,if_pos (by lia)];rfl
theorem y1q (m:Nat):∀n∈y4e m,intBits n≤1:=fun n hn=>by
 unfold y4e at hn
 rcases q0r.mp hn with rfl|h
 ·decide
 ·rw[(List.mem_replicate.mp h).2];decide
theorem y5c (T:Txt mg) (F:Fun K "way_within" "way_within" z1V f fd) (n:Nat) (c_height:Cal P w K mg base (7+2*n) "height" ["bound","spot"] (z1B K)) (c_way_along:Cal P w K mg base (7+2*n) "way_along" ["ways","bounds","bound","way"] (z8v K (n+1))):FnOk P w K mg base CX0 (7+2*n+1) f fd ["ways","bounds"] (z3W K (n+1)):=by
 refine F.ok sc_way_within (fun vs H Q E h=>?_) (fun cdv A outer s H vs Q E hr h=>?_)
 ·obtain⟨_,_,_,_,_,_,_,rfl,_⟩:=h;rfl
 obtain⟨m,l,as,bs,b,c,hk,rfl,hl,hls,hB,hlim,m5,n100,q1,q2⟩:=h
 obtain rfl:n=m:=by lia
 refine⟨_,(z0b (z0J (z0A z7S (pv 0) z0g (z0F _)) (z0e (z0o z3C)) z0y)
  (z0b (z0p (i:=2) sc_way_within.nd rfl (Or.inl rfl) (z0v z4t (z0O (z0a z0g z0c)) (z0v z6L (z0O (z0a z0g z0c)) (pv 0))))
  (z0b (z0T PassesOwn.never rfl (z5S (K:=K) rfl rfl T.enumerate (z0a (pv 1) z0c)) (z0S (K:=K) rfl 2 rfl (z0u (z0k (i:=3) sc_way_within.nd rfl (Or.inl rfl)) (z0u (z0k (i:=4) sc_way_within.nd rfl (Or.inl rfl)) z0R))) (z0e (z0J (z0A z4R (z0m c_height hr rfl (z0a (pv 4) (z0a (pv 2) z0c))) z0g (z0F _)) (z0b (z0p (i:=2) sc_way_within.nd rfl (Or.inl rfl) (z0m c_way_along hr rfl (z0a (pv 0) (z0a (z0Y (z1n (K:=K) rfl) (pv 1) z1t (z1f (pv 3))) (z0a (pv 4) (z0a (pv 2) z0c))))))
  (z0e (z0J (z3b (z5i (pv 2))) (z0e (z0o z3C)) z0y))) z0y)))
  (z0e (z0o (pv 2)))))),?_⟩
 obtain⟨b2,c2⟩:=z4z hlim
 have hS:=z9R hlim
 refine z0w (fun σ H'=>σ=[some (.int (n:Nat)),some (.ref l),none,none,none]∧H=H'∧n≠0) (fun N hN=>?_) ?_
 ·refine⟨_,rfl,rfl,_,rfl,?_⟩
  refine z3i (fun cc=>?_) (fun cc=>?_)
  ·have:n=0:=by
        have:=of_decide_eq_true cc
        injection this with z
        lia
   subst this
   exact q2 _ (Same.refl _) (y5k _)
  ·exact hN _ _ ⟨rfl,rfl,fun z=>cc (decide_eq_true (by rw[z];rfl))⟩
 rintro σ H0 ⟨rfl,rfl,n0⟩
 obtain⟨k,rfl⟩:∃k,n=k+1:=⟨n - 1,by lia⟩
 refine z0w (fun σ H'=>∃r,H r=none∧σ=[some (.int ((k+1:Nat):Int)),some (.ref l),some (.ref r),none,none]∧Same H H'∧H' r=some (.lst ((y4e (k+1)).map V.int))) (fun N hN=>?_) ?_
 ·refine⟨z0j (by show 1≤_;decide),fun z2 hz2=>?_⟩
  have g2:=z0f hz2 (.lst [V.int 1])
  have e2:upd H z2 (.lst [V.int 1]) z2=some (.lst [V.int 1]):=z0d
  generalize upd H z2 (.lst [V.int 1])=H2 at*
  refine⟨z0j (by show 1≤_;decide),fun z hz=>?_⟩
  have g0:=z0f hz (.lst [V.int 0])
  have e0:upd H2 z (.lst [V.int 0]) z=some (.lst [V.int 0]):=z0d
  generalize upd H2 z (.lst [V.int 0])=H0 at*
  refine⟨_,rfl,z,_,_,rfl,rfl,e0,by lia,by lia,z0j (by rw[q0J];show 1*(k+1)≤_;lia),fun z1 hz1=>?_⟩
  rw[q0J,z3j]
  have g1:=z0f hz1 (.lst ((List.replicate (k+1) (0:Int)).map V.int))
  have e1:upd H0 z1 (.lst ((List.replicate (k+1) (0:Int)).map V.int)) z1=some (.lst ((List.replicate (k+1) (0:Int)).map V.int)):=z0d
  generalize upd H0 z1 (.lst ((List.replicate (k+1) (0:Int)).map V.int))=H1 at*
  refine⟨z2,z1,_,_,rfl,rfl,(g0.trans g1) _ _ e2,e1,z0j (by rw[q0a,q1p];show 1+(k+1)≤_;lia),fun z3 hz3=>?_⟩
  have g02:=g2.trans (g0.trans g1)
  refine hN _ _ ⟨z3,g02.free hz3,rfl,g02.trans (z0f hz3 _),?_⟩
  rw[z0d]
  rfl
 rintro σ H0 ⟨r0,hr0,rfl,g0,e0⟩
 refine z0w (fun σ H'=>∃r sp s3 s4,H r=none∧σ=[some (.int ((k+1:Nat):Int)),some (.ref l),some (.ref r),s3,s4]∧Same H H'∧H' r=some (.lst (sp.map V.int))∧Wy (k+1) bs sp∧∀n'∈sp,intBits n'≤Sb (k+1) b c) (fun N hN=>?_) ?_
 ·refine⟨_,rfl,l,_,rfl,g0 _ _ hl,?_⟩
  refine z0E (z4o K l (as.map V.ref)) (fun i σ H'=>∃r sp s3 s4,H r=none∧σ=[some (.int ((k+1:Nat):Int)),some (.ref l),some (.ref r),s3,s4]∧Same H H'∧H' r=some (.lst (sp.map V.int))∧Wy (k+1) (bs.take i) sp∧∀n'∈sp,intBits n'≤Sb (k+1) b c)
   ⟨r0,y4e (k+1),_,_,hr0,rfl,g0,e0,⟨y3i k,fun b' hb'=>by simp at hb'⟩,fun n' hn'=>z0t (y1q _ n' hn') (y2B _ _ _)⟩ (fun i σ H' _ h=>by obtain⟨_,_,_,_,_,_,g,_⟩:=h;exact SqL.of (g _ _ hl)) ?_ ?_
  ·clear e0 g0 hr0
   rintro i x σ H1 H2 hi ⟨r,sp,s3,s4,hr1,rfl,g,er,hW,hb⟩ ⟨pr,vv,rfl,hpr,hvv,rfl⟩
   rw[q0a,hls.1] at hi
   rw[q0h] at hvv
   obtain⟨a,ha,rfl⟩:=q0v.mp hvv
   have et:bs[i]? =some bs[i]:=q0c hi
   have hum:bs[i]∈bs:=q0A hi
   have tk:bs.take (i+1)=bs.take i++[bs[i]]:=by rw[q0R,et];rfl
   generalize bs[i]=bd at et hum tk
   have g2:=z0f hpr (.tup [.int i,.ref a])
   have ep:upd H1 pr (.tup [.int i,.ref a]) pr=some (.tup [.int i,.ref a]):=z0d
   generalize upd H1 pr (.tup [.int i,.ref a])=H2 at*
   have gg2:=g.trans g2
   have hbd:=hB bd hum
   have hab:=gg2 _ _ (hls.2 i a bd ha et)
   refine⟨pr,_,rfl,SqT.of ep,rfl,_,_,rfl,_,_,rfl,rfl,?_⟩
   refine⟨_,rfl,_,rfl,a,r,bd,sp,k+1,rfl,hab,g2 _ _ er,hbd.len,hW.1.1,by lia,fun n' hn'=>z0t (hbd.all n' hn') (by lia),fun n' hn'=>z0t (hb n' hn') (by lia),fun H3 g3=>?_⟩
   refine⟨_,_,rfl,rfl,_,rfl,?_⟩
   have gg3:=gg2.trans g3
   refine z3i (fun cc=>?_) (fun cc=>?_)
   ·have hlt:hg (k+1) (v bd) (v sp)<0:=of_decide_eq_true cc
    refine⟨_,rfl,_,rfl,_,rfl,_,rfl,l,_,rfl,SqL.of (gg3 _ _ hl),fun p1 hp1=>?_⟩
    rw[y2s (by lia) (by rw[q0a,hls.1];lia),q0J,←List.map_take]
    have g4:=z0f hp1 (.lst ((as.take i).map V.ref))
    have e4:upd H3 p1 (.lst ((as.take i).map V.ref)) p1=some (.lst ((as.take i).map V.ref)):=z0d
    generalize upd H3 p1 (.lst ((as.take i).map V.ref))=H4 at*
    have gg4:=gg3.trans g4
    have hls4:LsA H4 (as.take i) (bs.take i):=⟨by rw[q0o,q0o,hls.1],fun j a' t' e1 e2=>by
     have hj:j<i:=by
         have:=(q0t.mp e2).1
         rw[q0o] at this;lia
     rw[q1s hj] at e1 e2
     exact gg4 _ _ (hls.2 j a' t' e1 e2)⟩
    refine⟨_,rfl,_,rfl,k+1,p1,a,r,as.take i,bs.take i,bd,sp,b,c,rfl,rfl,e4,hls4,(g3.trans g4) _ _ hab,(g2.trans (g3.trans g4)) _ _ er,fun r' hr'=>hB r' (q1t hr'),hbd,hlim,m5,by rw[q0o];lia,hW,hlt,hb,fun r5 sp5 H5 hr5 g5 er5 hW5 hb5=>?_,fun H5 g5 hno=>?_⟩
    ·refine⟨_,rfl,_,rfl,?_⟩
     refine z1I ?_
     exact⟨r5,sp5,_,_,gg4.free hr5,rfl,gg4.trans g5,er5,by rw[tk];exact hW5,hb5⟩
    ·refine⟨_,rfl,_,rfl,?_⟩
     refine z4N ?_
     refine q2 _ (gg4.trans g5) fun hp=>hno ?_
     rw[←tk]
     exact PWy.less (cs:=bs.drop (i+1)) (by rw[q1A];exact hp)
   ·have hge:¬hg (k+1) (v bd) (v sp)<0:=fun z=>cc (decide_eq_true z)
    refine⟨r,sp,_,_,hr1,rfl,gg3,(g2.trans g3) _ _ er,⟨hW.1,fun b' hb'=>?_⟩,hb⟩
    rw[tk] at hb'
    rcases q0H.mp hb' with h|h
    ·exact hW.2 b' h
    ·rw[q0m.mp h];lia
  ·rintro σ H1 ⟨r,sp,s3,s4,hr1,rfl,g,er,hW,hb⟩
   rw[q0a,hls.1,q0T] at hW
   exact hN _ _ ⟨r,sp,_,_,hr1,rfl,g,er,hW,hb⟩
 clear e0 g0 hr0
 rintro σ H1 ⟨r,sp,s3,s4,hr1,rfl,g,er,hW,hb⟩
 exact⟨_,rfl,q1 r sp H1 hr1 g er hW hb⟩
theorem y1s {fa:Addr}{fda:FuncData} (T:Txt mg) (Fa:Fun K "way_along" "way_along" z2h fa fda) (ba:Binds K fda ["ways","bounds","bound","way"] []) (ka:PySem.W.keepIn K (.ref fa)=true) (ma:mg "way_along"=some (.ref fa))
 (F:Fun K "way_within" "way_within" z1V f fd) (bw:Binds K fd ["ways","bounds"] []) (kw:PySem.W.keepIn K (.ref f)=true) (mw:mg "way_within"=some (.ref f))
 (c_turned:Cal P w K mg base 5 "turned" ["numbers","sign"] (z2g K)) (c_lead:Cal P w K mg base 5 "lead" ["bound"] (z6B K)) (c_drawn:Cal P w K mg base 5 "drawn" ["rows","numbers"] (z3Y K)) (c_lifted:Cal P w K mg base 5 "lifted" ["rows","spot"] (z2Z K)) (c_height:Cal P w K mg base 5 "height" ["bound","spot"] (z1B K)):
 ∀n,FnOk P w K mg base CX0 (6+2*n) f fd ["ways","bounds"] (z3W K n)∧FnOk P w K mg base CX0 (6+2*n+1) fa fda ["ways","bounds","bound","way"] (z8v K (n+1))
 |0=>by
  have cw:FnOk P w K mg base CX0 (6+2*0) f fd ["ways","bounds"] (z3W K 0):=⟨fun _ _ _ _ h=>by obtain⟨_,_,_,_,_,_,e,_⟩:=h;lia,fun _ _ _ _ _ _ _ _ _ _ _ _ _ h=>by obtain⟨_,_,_,_,_,_,e,_⟩:=h;lia⟩
  exact⟨cw,y1t T Fa 0 (c_height.mono (by lia)) (c_turned.mono (by lia)) (c_lead.mono (by lia)) (c_drawn.mono (by lia)) (c_lifted.mono (by lia)) ⟨f,fd,cw,bw,kw,mw⟩⟩
 |n+1=>by
  obtain⟨_,ha⟩:=y1s T Fa ba ka ma F bw kw mw c_turned c_lead c_drawn c_lifted c_height n
  have e7:6+2*n+1=7+2*n:=by lia
  have ha':Cal P w K mg base (7+2*n) "way_along" ["ways","bounds","bound","way"] (z8v K (n+1)):=⟨fa,fda,by rw[←e7];exact ha,ba,ka,ma⟩
  have hw:=y5c T F n (c_height.mono (by lia)) ha'
  have e8:7+2*n+1=6+2*(n+1):=by lia
  rw[e8] at hw
  exact⟨hw,y1t T Fa (n+1) (c_height.mono (by lia)) (c_turned.mono (by lia)) (c_lead.mono (by lia)) (c_drawn.mono (by lia)) (c_lifted.mono (by lia)) ⟨f,fd,hw,bw,kw,mw⟩⟩
abbrev z2i:Stmt:=top 40
theorem z4O:z0q ["ways","walls","signs"] ["ways","walls","signs"] (z0i z2i):=⟨rfl,rfl,rfl,by decide+kernel,rfl,by decide+kernel,by decide+kernel⟩
def z6A (K:PySem.W.Frag):Sp:=fun vs H Q _=>∃(m:Nat) (lw q:Addr) (as:List Addr) (ts:List (List Int)) (sg:List Int) (b c:Nat),vs=[.int (m:Nat),.ref lw,.ref q]∧WsA K H m lw as ts b c∧H q=some (.tup (sg.map V.int))∧sg.length≤30∧z5s m ts sg∧∀H',Same H H'→Q .non H'
open Classical in
theorem z4S (T:Txt mg) (F:Fun K "looked_land" "looked_land" z2i f fd) (c_is_land:Cal P w K mg base 17 "is_land" ["ways","walls","signs"] (z8A K)):FnOk P w K mg base CX0 18 f fd ["ways","walls","signs"] (z6A K):=by
 refine F.ok z4O (fun vs H Q E h=>?_) (fun cdv A outer s H vs Q E hr h=>?_)
 ·obtain⟨_,_,_,_,_,_,_,_,rfl,_⟩:=h;rfl
 obtain⟨m,lw,q',as,ts,sg,b,c,rfl,hW,hq,s30,hg,q⟩:=h
 refine⟨_,(z0e (z0J (z1e (z0W (z0m c_is_land hr rfl (z0a (pv 0) (z0a (pv 1) (z0a (pv 2) z0c)))))) (z0e z3c) z0y)),?_⟩
 refine⟨_,rfl,_,rfl,_,rfl,m,lw,q',as,ts,sg,b,c,rfl,hW,hq,s30,fun H1 g1=>?_⟩
 refine⟨_,rfl,?_⟩
 rw[decide_eq_true hg]
 refine z1I ?_
 exact q _ g1
abbrev z4a:Stmt:=top 43
theorem sc_way_out:z0q ["ways","walls","signs","way"] ["ways","walls","signs"] (z0i z4a):=⟨rfl,rfl,rfl,by decide+kernel,rfl,by decide+kernel,by decide+kernel⟩
def z5w (K:PySem.W.Frag):Sp:=fun vs H Q _=>∃(m:Nat) (lw q:Addr) (as:List Addr) (ts:List (List Int)) (sg:List Int) (b c:Nat),vs=[.int (m:Nat),.ref lw,.ref q]∧WsA K H m lw as ts b c∧H q=some (.tup (sg.map V.int))∧sg.length≤30∧
 z5s m ts sg∧(∀(r:Addr) (d:List Int) (H':Hp),Same H H'→H' r=some (.tup (d.dropLast.map V.int))→Wy m (bdL ts sg) d→(∀n∈d,intBits n≤12000)→Q (.ref r) H')∧(∀H',Same H H'→¬PWy m (bdL ts sg)→Q .non H')
theorem z9z (T:Txt mg) (F:Fun K "way_out" "way_out" z4a f fd) (c_looked_land:Cal P w K mg base 18 "looked_land" ["ways","walls","signs"] (z6A K)) (c_bounds_at:Cal P w K mg base 18 "bounds_at" ["walls","signs"] (z3K K)) (c0:∀m,m≤4→Cal P w K mg base 18 "way_within" ["ways","bounds"] (z3W K (m+1))):FnOk P w K mg base CX0 19 f fd ["ways","walls","signs"] (z5w K):=by
 refine F.ok sc_way_out (fun vs H Q E h=>?_) (fun cdv A outer s H vs Q E hr h=>?_)
 ·obtain⟨_,_,_,_,_,_,_,_,rfl,_⟩:=h;rfl
 obtain⟨m,lw,q',as,ts,sg,b,c,rfl,hW,hq,s30,hg,q1,q2⟩:=h
 have c_way_within:=c0 m hW.m4
 have m4:=hW.m4
 have n8:=hW.n8
 refine⟨_,(z0b (z1o (z0m c_looked_land hr rfl (z0a (pv 0) (z0a (pv 1) (z0a (pv 2) z0c)))))
  (z0b (z0p (i:=3) sc_way_out.nd rfl (Or.inl rfl) (z0m c_way_within hr rfl (z0a (pv 0) (z0a (z0m c_bounds_at hr rfl (z0a (pv 1) (z0a (pv 2) z0c))) z0c))))
  (z0e (z0o (z3M (z3b (z5i (pv 3))) z3C (z1i (z1R (K:=K) rfl) rfl T.tuple boot_tuple (z0a (z0Y (z1n (K:=K) rfl) (pv 3) z1t (z1f (z1E z1c z0g))) z0c))))))),?_⟩
 obtain⟨b2,c2⟩:=z4z hW.lim
 have hS:=z9R hW.lim
 refine z0w (fun σ H'=>σ=[some (.int (m:Nat)),some (.ref lw),some (.ref q'),none]∧Same H H') (fun N hN=>?_) ?_
 ·exact⟨_,rfl,_,rfl,_,rfl,m,lw,q',as,ts,sg,b,c,rfl,hW,hq,s30,hg,fun H1 g1=>hN _ _ ⟨rfl,g1⟩⟩
 rintro σ H1 ⟨rfl,g1⟩
 have hW1:=hW.same g1
 refine z0w (fun σ H'=>Same H H'∧((∃r d,σ=[some (.int (m:Nat)),some (.ref lw),some (.ref q'),some (.ref r)]∧H' r=some (.lst (d.map V.int))∧Wy m (bdL ts sg) d∧∀n∈d,intBits n≤12000)∨(σ=[some (.int (m:Nat)),some (.ref lw),some (.ref q'),some .non]∧¬PWy m (bdL ts sg)))) (fun N hN=>?_) ?_
 ·refine⟨_,rfl,_,rfl,_,rfl,lw,q',as,ts,sg,rfl,hW1.lst,hW1.rows,g1 _ _ hq,hg.1.symm,hg.2.1,by lia,fun u hu=>⟨by rw[(hW.bd u hu).len];lia,fun n hn=>z0t ((hW.bd u hu).all n hn) (by lia)⟩,fun rb bs H2 hrb g2 erb hbs=>?_⟩
  refine⟨m,rb,bs,bdL ts sg,b,c,rfl,rfl,erb,hbs,y5J hW.bd hg.2.1,hW.lim,by lia,by unfold bdL;rw[List.length_zipWith];lia,fun r3 d H3 hr3 g3 er3 hw3 hb3=>?_,fun H3 g3 hno=>?_⟩
  ·exact hN _ _ ⟨g1.trans (g2.trans g3),.inl ⟨r3,d,rfl,er3,hw3,fun n hn=>z0t (hb3 n hn) hS⟩⟩
  ·exact hN _ _ ⟨g1.trans (g2.trans g3),.inr ⟨rfl,hno⟩⟩
 clear g1 hW1
 rintro σ H1 ⟨g1,⟨r,d,rfl,er,hw,hb⟩|⟨rfl,hno⟩⟩
 ·have dl:=hw.1.1
  obtain⟨d',y,ed⟩:∃a' x,d=a'++[x]:=⟨d.dropLast,d.getLast (fun z=>by rw[z] at dl;simp at dl),(q0y _).symm⟩
  have er':H1 r=some (.lst (d'.map V.int++[V.int y])):=by rw[er,ed,q0x];rfl
  refine⟨_,rfl,_,rfl,?_⟩
  refine z1I ?_
  refine⟨_,rfl,_,rfl,_,rfl,r,_,rfl,SqL.of er',fun z hz=>?_⟩
  rw[z1F]
  have g2:=z0f hz (.lst (d'.map V.int))
  refine⟨z,_,rfl,.inl ⟨SqL.of z0d,fun r2 hr2=>?_⟩⟩
  refine q1 r2 d _ (g1.trans (g2.trans (z0f hr2 _))) ?_ hw hb
  rw[z0d,ed,q1F]
 ·refine⟨_,rfl,_,rfl,?_⟩
  refine z4N ?_
  exact q2 _ g1 hno
end
end L2
namespace L2
open PySem PySem.Spec PyProof.Rows
section
open Fr Wl Rk Pt
open Builtin.Int (intBits)
variable {P:Program}{w:World}{K:PySem.W.Frag}{mg:Str→Option Value}{base:Heap}{f:Addr}{fd:FuncData}
def kyL (t:List Int):List Key:=t.map Sum.inl
theorem y1K (t:List Int):(kyL t).map kV=t.map V.int:=by unfold kyL;rw[List.map_map];rfl
theorem y5o {a b:List Int} (h:kyL a=kyL b):a=b:=List.map_inj_right (fun x y h=>by injection h) |>.mp h
def y0l (L:List (List Int)):List (List Key×V):=L.map fun t=>(kyL t,V.bl true)
theorem y2Z (L:List (List Int)) (t:List Int):z9w (y0l L) (kyL t) (.bl true)=y0l (if t∈L then L else L++[t]):=by
 unfold z9w
 have ha:((y0l L).any fun kv=>decide (kv.1=kyL t))=decide (t∈L):=by
  unfold y0l
  rw[List.any_map]
  rw[q1r,q1c,decide_eq_true_iff]
  constructor
  ·rintro⟨x,hx,h⟩
   have:kyL x=kyL t:=of_decide_eq_true h
   rw[←y5o this];exact hx
  ·intro h
   exact⟨t,h,decide_eq_true rfl⟩
 rw[ha]
 by_cases h:t∈L
 ·rw[if_pos h,if_pos (decide_eq_true h)]
  unfold y0l
  rw[q0C]
  refine q1w fun x _=>?_
  show (if kyL x=kyL t then (kyL x,V.bl true) else (kyL x,V.bl true))=_
  split<;>rfl
 ·rw[if_neg h,if_neg (by rw[decide_eq_false h];decide)]
  unfold y0l
  rw[q0x];rfl
theorem y0n (F:List Int→Option (List Int)) (ts:List (List Int)) (u:List Int):wd F (ts++[u])=match F u with|none=>wd F ts|some d=>if d∈wd F ts then wd F ts else wd F ts++[d]:=by
 unfold wd
 rw[List.filterMap_append]
 cases hF:F u with
 |none=>simp[hF]
 |some d=>rw[show [u].filterMap F=[d] by simp[hF],y5D]
abbrev z1X:Stmt:=top 22
theorem sc_walls_within:z0q ["rows","walls","met","numbers","rest"] ["rows","walls"] (z0i z1X):=⟨rfl,rfl,rfl,by decide+kernel,rfl,by decide+kernel,by decide+kernel⟩
def z8u (K:PySem.W.Frag):Sp:=fun vs H Q _=>∃(l a b:Addr) (as:List Addr) (t:List Int) (ts:List (List Int)) (B:Nat),vs=[.ref l,.ref b]∧H l=some (.lst [V.ref a])∧H a=some (.tup (t.map V.int))∧H b=some (.lst (as.map V.ref))∧TsA H as ts∧ts.length≤100∧2≤t.length∧t.length≤100∧(∃n∈t,n≠0)∧(∀n∈t,intBits n≤B)∧(∀u∈ts,u.length=t.length∧∀n∈u,intBits n≤B)∧B≤4000∧
 ∀(r:Addr) (bs:List Addr) (H':Hp),H r=none→Same H H'→H' r=some (.lst (bs.map V.ref))→TsA H' bs (wd (drF t) ts)→Q (.ref r) H'
theorem z4u (T:Txt mg) (F:Fun K "walls_within" "walls_within" z1X f fd) (c_drawn:Cal P w K mg base 4 "drawn" ["rows","numbers"] (z8E K)) (c_wall:Cal P w K mg base 4 "wall" ["numbers"] (z8w K)):FnOk P w K mg base CX0 5 f fd ["rows","walls"] (z8u K):=by
 refine F.ok sc_walls_within (fun vs H Q E h=>?_) (fun cdv A outer s H vs Q E hr h=>?_)
 ·obtain⟨_,_,_,_,_,_,_,rfl,_⟩:=h;rfl
 obtain⟨l,a,b,as,t,ts,B,rfl,hl,ha,hb,hts,t100,tl2,tl,tnz,zt,zu,b4,q⟩:=h
 refine⟨_,(z0b (z0p (i:=2) sc_walls_within.nd rfl (Or.inl rfl) y3f)
  (z0b (z0T PassesOwn.never rfl (z0D (K:=K) rfl (pv 1)) (z0k (i:=3) sc_walls_within.nd rfl (Or.inl rfl)) (z0b (z0p (i:=4) sc_walls_within.nd rfl (Or.inl rfl) (z0m c_drawn hr rfl (z0a (pv 0) (z0a (pv 3) z0c))))
  (z0e (z0J (z0W (z0x (z1S (K:=K) rfl rfl) rfl T.any boot_any (z0a (z0Y (z7D (K:=K) rfl) (pv 4) z1t (z1f (z1E z1c z0g))) z0c))) (z0e (y4Q (hu_of hr) (pv 2) (z0m c_wall hr rfl (z0a (pv 4) z0c)) z1r rfl)) z0y))))
  (z0e (z0o (z1i (y0d rfl) rfl T.list boot_list (z0a (pv 2) z0c)))))),?_⟩
 refine fun d hd=>?_
 have g0:=z0f hd (.dT [])
 have e0:upd H d (.dT []) d=some (.dT (y0l (wd (drF t) ([]:List (List Int))))):=z0d
 generalize upd H d (.dT [])=H0 at*
 refine⟨_,rfl,b,rfl,⟨_,SqL.of (g0 _ _ hb)⟩,?_⟩
 refine z0E (z0z K b (as.map V.ref)) (fun i σ H'=>∃(s3 s4:Option V),σ=[some (.ref l),some (.ref b),some (.ref d),s3,s4]∧H' d=some (.dT (y0l (wd (drF t) (ts.take i))))∧Same H H')
  ⟨_,_,rfl,e0,g0⟩ (fun i σ H' _ h=>by obtain⟨_,_,_,_,g⟩:=h;exact SqL.of (g _ _ hb)) ?_ ?_
 ·clear e0
  rintro i x σ H1 H2 hi ⟨s3,s4,rfl,ed,g⟩ ⟨rfl,hx⟩
  rw[q0a,hts.1] at hi
  rw[q0h] at hx
  obtain⟨c,hc,rfl⟩:=q0v.mp hx
  have et:ts[i]? =some ts[i]:=q0c hi
  have hum:ts[i]∈ts:=q0A hi
  have tk:ts.take (i+1)=ts.take i++[ts[i]]:=by rw[q0R,et];rfl
  generalize ts[i]=u at et hum tk
  obtain⟨ul,ub⟩:=zu u hum
  have hlen:=z8n (drF t) (ts.take i)
  rw[q0o] at hlen
  refine⟨_,rfl,_,rfl,l,c,a,t,u,B,rfl,g _ _ hl,g _ _ ha,.inr (SqT.of (g _ _ (hts.2 i c u hc et))),ul,tl,tnz,zt,ub,b4,fun r H3 _ zb g3 er=>?_⟩
  have ed3:=g3 _ _ ed
  have dl:=z2C (t:=t) (u:=u) ul tnz
  obtain⟨ns,last,ens⟩:∃ns last,drR t u=ns++[last]:=⟨(drR t u).dropLast,(drR t u).getLast (fun z=>by rw[z] at dl;simp at dl;lia),(q0y _).symm⟩
  have er':H3 r=some (.lst (ns.map V.int++[V.int last])):=by rw[er,ens,q0x];rfl
  refine⟨_,rfl,_,rfl,_,rfl,z7C (b:=true) (xs:=ns.map V.int) (v:= .int last) (SqL.of er') fun q0 H4 g4 hq0=>?_⟩
  refine⟨q0,_,rfl,hq0,z1G ns,_,rfl,?_⟩
  have gg:=g.trans (g3.trans g4)
  have ed4:=g4 _ _ ed3
  have hdl:(drR t u).dropLast =ns:=by rw[ens,q1F]
  by_cases hnz:∃n∈ns,n≠0
  ·rw[(z1w ns).mpr hnz]
   refine z4N ?_
   have hF:drF t u=some (z0n (ns++[last])):=by
        unfold drF
        rw[hdl,if_pos (by rw[q1c];obtain⟨n,h1,h2⟩:=hnz;exact⟨n,h1,by simpa using h2⟩),ens]
   have e4:=g4 _ _ er
   refine⟨_,rfl,_,rfl,r,ns,last,rfl,.inl (SqL.of (by rw[e4,ens])),by rw[←ens];lia,fun n hn=>q0p (zb n (by rw[ens];exact hn)) (by lia),hnz,fun tt H5 g5 e5=>?_⟩
   refine⟨d,_,rfl,DPut.t (k:=kyL (z0n (ns++[last]))) (g5 _ _ ed4) (by rw[y1K];exact e5) (z2n (by unfold y0l;rw[List.length_map];lia)),?_⟩
   refine⟨_,_,rfl,?_,fun b o e=>by rw[z0l (z0h e hd)];exact (gg.trans g5) _ _ e⟩
   rw[z0d,y2Z,tk,y0n,hF]
  ·have h0:(ns.map V.int).any trV=false:=by
        cases z:(ns.map V.int).any trV with
        |false=>rfl
        |true=>exact absurd ((z1w ns).mp z) hnz
   rw[h0]
   refine z1I ?_
   have hF:drF t u=none:=by
        unfold drF
        rw[hdl,if_neg]
        intro z
        obtain⟨n,h1,h2⟩:=q1c.mp z
        exact hnz ⟨n,h1,by simpa using h2⟩
   refine⟨_,_,rfl,?_,gg⟩
   rw[tk,y0n,hF]
   exact ed4
 ·rintro σ H1 ⟨s3,s4,rfl,ed,g⟩
  rw[q0a,hts.1,q0T] at ed
  have hlen:=z8n (drF t) ts
  refine⟨_,rfl,d,_,rfl,ed,by unfold y0l;rw[List.length_map];lia,fun r bs hr1 hbl hb=>?_⟩
  have g2:=z0f hr1 (.lst (bs.map V.ref))
  refine q r bs _ (g.free hr1) (g.trans g2) z0d ⟨by rw[hbl];unfold y0l;rw[List.length_map],fun i b t e1 e2=>?_⟩
  have z:=hb i b (kyL t) (.bl true) e1 (by unfold y0l;rw[List.getElem?_map,e2];rfl)
  rw[y1K] at z
  exact g2 _ _ z
abbrev z2y:Stmt:=top 48
theorem z5H:z0q ["ways","walls","place"] ["ways","walls","place"] (z0i z2y):=⟨rfl,rfl,rfl,by decide+kernel,rfl,by decide+kernel,by decide+kernel⟩
def y0C (K:PySem.W.Frag):Sp:=fun vs H Q _=>∃(b:Addr) (as:List Addr) (ts:List (List Int)) (t:List Int) (m j B:Nat),vs=[.int (m:Nat),.ref b,.int (j:Nat)]∧H b=some (.lst (as.map V.ref))∧TsA H as ts∧ts[j]? =some t∧ts.length≤100∧2≤t.length∧t.length≤100∧(∃n∈t,n≠0)∧(∀u∈ts,u.length=t.length∧∀n∈u,intBits n≤B)∧B≤4000∧
 ∀(r:Addr) (bs:List Addr) (H':Hp),H r=none→Same H H'→H' r=some (.lst (bs.map V.ref))→TsA H' bs (wd (drF t) ts)→Q (.ref r) H'
theorem z5Z (T:Txt mg) (F:Fun K "drawn_into" "drawn_into" z2y f fd) (c_walls_within:Cal P w K mg base 5 "walls_within" ["rows","walls"] (z8u K)):FnOk P w K mg base CX0 6 f fd ["ways","walls","place"] (y0C K):=by
 refine F.ok z5H (fun vs H Q E h=>?_) (fun cdv A outer s H vs Q E hr h=>?_)
 ·obtain⟨_,_,_,_,_,_,_,rfl,_⟩:=h;rfl
 obtain⟨b,as,ts,t,m,j,B,rfl,hb,hts,hj,t100,tl2,tl,tnz,zu,b4,q⟩:=h
 refine⟨_,(z0e (z0o (z0m c_walls_within hr rfl (z0a (z0O (z0a (z0G (z0B (K:=K) rfl) (pv 1) (pv 2) (fun _ _=>rfl)) z0c)) (z0a (pv 1) z0c))))),?_⟩
 have hjl:=(q0t.mp hj).1
 have haj:as[j]? =some (as[j]'(by rw[hts.1];exact hjl)):=q0c _
 have hat:atI (as.map V.ref) (j:Int)=some (.ref (as[j]'(by rw[hts.1];exact hjl))):=z2E (by rw[q0h,haj];rfl)
 have hta:=hts.2 j _ t haj hj
 generalize as[j]'(by rw[hts.1];exact hjl)=a at hat hta
 refine⟨_,rfl,_,rfl,b,_,_,_,rfl,rfl,SqL.of hb,hat,z0j (by show 1≤_;decide),fun l hl=>?_⟩
 have g1:=z0f hl (.lst [V.ref a])
 have e1:upd H l (.lst [V.ref a]) l=some (.lst [V.ref a]):=z0d
 generalize upd H l (.lst [V.ref a])=H1 at*
 exact⟨_,rfl,l,a,b,as,t,ts,B,rfl,e1,g1 _ _ hta,g1 _ _ hb,hts.same g1,t100,tl2,tl,tnz,(zu t (q0E hj)).2,zu,b4,fun r bs H' hr1 g' e' h'=>q r bs H' (g1.free hr1) (g1.trans g') e' h'⟩
end
end L2
namespace L2
open PySem PySem.Spec PyProof.Rows
section
open Fr Wl Rk Pt
open Builtin.Int (intBits)
variable {P:Program}{w:World}{K:PySem.W.Frag}{mg:Str→Option Value}{base:Heap}{f:Addr}{fd:FuncData}
abbrev z1O:Stmt:=top 49
theorem sc_by_taking_out:z0q ["ways","walls","without","within"] ["ways","walls"] (z0i z1O):=⟨rfl,rfl,rfl,by decide+kernel,rfl,by decide+kernel,by decide+kernel⟩
def y4F (K:PySem.W.Frag) (k:Nat):Sp:=fun vs H Q _=>∃(n:Nat) (l:Addr) (as:List Addr) (ts:List (List Int)) (m B:Nat),k=n+1∧vs=[.int (m:Nat),.ref l]∧H l=some (.lst (as.map V.ref))∧TsA H as ts∧ts.length≤n∧n≤20∧m≤4∧(∀t∈ts,WL m t∧∀x∈t,intBits x≤B)∧(B+2)*4^m≤4000∧
 ∀(r:Addr) (H':Hp),H r=none→Same H H'→H' r=some (.lst ((bto n m ts).map V.int))→Q (.ref r) H'
theorem y4z {m B:Nat}{t:List Int}{ts:List (List Int)} (ht:WL (m+1) t) (hs:∀u∈ts,u.length=m+2) (zt:∀n∈t,intBits n≤B) (zu:∀u∈ts,∀n∈u,intBits n≤B):∀d∈wd (drF t) ts,∀n∈d,intBits n≤2*B+1:=fun d hd n hn=>by
 unfold wd at hd
 rcases (y2n _ _).mp hd with hd|hd
 ·cases hd
 obtain⟨u,hu,hF⟩:=List.mem_filterMap.mp hd
 obtain⟨c,rfl⟩:=y3J hF
 have hul:u.length=t.length:=by rw[hs u hu,ht.len]
 have hl':(drR t u).length =m+1:=by have:=z2C hul ht.nz;have:=ht.len;lia
 obtain⟨j,hj,hjn⟩:=(z1K hl').mp c
 unfold z0n at hn
 obtain⟨y,hy,rfl⟩:=q0g.mp hn
 refine intBits_le_of_natAbs (z1Z (z2D hy) (z2Q ⟨_,(z6u hjn).2,hjn⟩)) ?_
 exact q0p (z5r hul ht.nz (zu u hu) zt y (List.mem_of_mem_eraseIdx hy)) (by lia)
theorem y4f (T:Txt mg) (F:Fun K "by_taking_out" "by_taking_out" z1O f fd) (bn:Binds K fd ["ways","walls"] []) (kp:PySem.W.keepIn K (.ref f)=true) (hmg:mg "by_taking_out"=some (.ref f)) (c0:Cal P w K mg base 6 "drawn_into" ["ways","walls","place"] (y0C K)):∀n,FnOk P w K mg base CX0 (6+n) f fd ["ways","walls"] (y4F K n)
 |0=>⟨fun _ _ _ _ h=>by obtain⟨_,_,_,_,_,_,e,_⟩:=h;lia,fun _ _ _ _ _ _ _ _ _ _ _ _ _ h=>by obtain⟨_,_,_,_,_,_,e,_⟩:=h;lia⟩
 |n+1=>by
  have c_by_taking_out:Cal P w K mg base (6+n) "by_taking_out" ["ways","walls"] (y4F K n):=⟨f,fd,y4f T F bn kp hmg c0 n,bn,kp,hmg⟩
  have c_drawn_into:Cal P w K mg base (6+n) "drawn_into" ["ways","walls","place"] (y0C K):=c0.mono (by lia)
  refine F.ok sc_by_taking_out (fun vs H Q E h=>?_) (fun cdv A outer s H vs Q E hr h=>?_)
  ·obtain⟨_,_,_,_,_,_,_,rfl,_⟩:=h;rfl
  obtain⟨n',l,as,ts,m,B,en,rfl,hl,hts,tn,n20,m3,hw,hB,q⟩:=h
  obtain rfl:n=n':=by lia
  refine⟨_,(z0b (z0J (z1e (y3a (pv 1) (fun _=>rfl))) (z0e (z0o (z0v z4t (z0v z6L (z0O (z0a z0g z0c)) (pv 0)) (z0O (z0a z0g z0c))))) z0y)
  (z0b (z0p (i:=2) sc_by_taking_out.nd rfl (Or.inl rfl) (z0m c_by_taking_out hr rfl (z0a (pv 0) (z0a (z0Y (z1n (K:=K) rfl) (pv 1) z1t (z1f (z1E z1c z0g))) z0c))))
  (z0b (z0p (i:=3) sc_by_taking_out.nd rfl (Or.inl rfl) (z0m c_by_taking_out hr rfl (z0a (z0v z2p (pv 0) z0g) (z0a (z0m c_drawn_into hr rfl (z0a (pv 0) (z0a (pv 1) (z0a (z0v z2p (z0x (z0M (K:=K) rfl) rfl T.len PySem.boot_len (z0a (pv 1) z0c)) z0g) z0c)))) z0c))))
  (z0e (z0o (z0L (Nc:=["one","other"]) (fr:=[none,none]) rfl (z2A (K:=K) rfl rfl T.zip (z0a (pv 2) (z0a (z0v z4t (pv 3) (z0O (z0a z0g z0c))) z0c))) rfl (by decide) rfl (by decide) rfl trivial trivial (fun _ _ _ _=>(z0S (K:=K) rfl 2 rfl (z0u (z0k (i:=0) (show List.Nodup (["one","other"]:List Str) from by decide) rfl (Or.inl rfl)) (z0u (z0k (i:=1) (show List.Nodup (["one","other"]:List Str) from by decide) rfl (Or.inl rfl)) z0R)))) (fun _ _ _ _=>z0K) (fun _ _ _ _=>(z0v z2p (pv 0) (pv 1))))))))),?_⟩
  by_cases he:ts=[]
  ·subst he
   have e0:as=[]:=q0V.mp (by rw[hts.1];rfl)
   subst e0
   refine⟨_,rfl,_,.inl ⟨_,SqL.of hl,rfl⟩,?_⟩
   refine z4N ?_
   refine⟨z0j (by show 1≤_;decide),fun z hz=>?_⟩
   have g0:=z0f hz (.lst [V.int 0])
   have e0:upd H z (.lst [V.int 0]) z=some (.lst [V.int 0]):=z0d
   generalize upd H z (.lst [V.int 0])=H0 at*
   refine⟨_,rfl,z,_,_,rfl,rfl,e0,by lia,by lia,z0j (by rw[q0J];show 1*m≤_;lia),fun z1 hz1=>?_⟩
   rw[q0J,z9Y]
   have g1:=z0f hz1 (.lst ((List.replicate m (0:Int)).map V.int))
   have e1:upd H0 z1 (.lst ((List.replicate m (0:Int)).map V.int)) z1=some (.lst ((List.replicate m (0:Int)).map V.int)):=z0d
   generalize upd H0 z1 (.lst ((List.replicate m (0:Int)).map V.int))=H1 at*
   refine⟨z0j (by show 1≤_;decide),fun z2 hz2=>?_⟩
   have g2:=z0f hz2 (.lst [V.int 1])
   have e2:upd H1 z2 (.lst [V.int 1]) z2=some (.lst [V.int 1]):=z0d
   generalize upd H1 z2 (.lst [V.int 1])=H2 at*
   refine⟨z1,z2,_,_,rfl,rfl,g2 _ _ e1,e2,z0j (by rw[q0a,q1p];show m+1≤_;lia),fun z3 hz3=>?_⟩
   have g02:=g0.trans (g1.trans g2)
   refine q z3 _ (g02.free hz3) (g02.trans (z0f hz3 _)) ?_
   rw[z0d,z8j,q0x]
   rfl
  obtain⟨ts',t,rfl⟩:=z7B he
  obtain⟨as',a,rfl⟩:∃as' a,as=as'++[a]:=⟨as.dropLast,as.getLast (fun z=>by have:=hts.1;rw[z] at this;simp at this),(q0y _).symm⟩
  have alen:as'.length=ts'.length:=by have:=hts.1;simpa using this
  have hts':TsA H as' ts':=⟨alen,fun i b u e1 e2=>hts.2 i b u (by rw[q0L (q0t.mp e1).1];exact e1) (by rw[q0L (q0t.mp e2).1];exact e2)⟩
  have ht:=(hw t (by simp)).1
  obtain⟨m,rfl⟩:∃k,m=k+1:=⟨m - 1,by have:=ht.fp;lia⟩
  rw[q0n,q0Y] at tn
  obtain⟨n,rfl⟩:∃k,n=k+1:=⟨n - 1,by lia⟩
  have hw':∀u∈ts',WL (m+1) u∧∀x∈u,intBits x≤B:=fun u hu=>hw u (q0B _ hu)
  refine⟨_,rfl,true,.inl ⟨_,SqL.of hl,by simp⟩,?_⟩
  refine z1I ?_
  refine⟨_,rfl,_,rfl,_,rfl,_,rfl,l,_,rfl,SqL.of hl,fun p1 hp1=>?_⟩
  rw[q0x,show [a].map V.ref=[V.ref a] from rfl,z1F]
  have g1:=z0f hp1 (.lst (as'.map V.ref))
  have e1:upd H p1 (.lst (as'.map V.ref)) p1=some (.lst (as'.map V.ref)):=z0d
  generalize upd H p1 (.lst (as'.map V.ref))=H1 at*
  refine⟨n,p1,as',ts',m+1,B,rfl,rfl,e1,hts'.same g1,by lia,by lia,m3,hw',hB,fun r1 H2 hr1 g2 er1=>?_⟩
  have g02:=g1.trans g2
  have hl2:=g02 _ _ hl
  have b1:2≤t.length:=by rw[ht.len];lia
  have bB:B≤4000:=by
   have:1≤4^(m+1):=Nat.one_le_pow _ _ (by decide)
   have:=Nat.mul_le_mul_left (B+2) this
   lia
  refine⟨_,rfl,_,_,rfl,rfl,_,rfl,_,rfl,_,rfl,l,_,rfl,.inl (SqL.of hl2),_,_,rfl,rfl,l,as'++[a],ts'++[t],t,m+1,ts'.length,B,?_,hl2,hts.same g02,by rw[q0D (q0j _),q1n];rfl,by rw[q0n,q0Y];lia,b1,by rw[ht.len];lia,ht.nz,fun u hu=>⟨by rw[(hw u hu).1.len,ht.len],(hw u hu).2⟩,bB,fun r2 bs H3 hr2 g3 er2 hbs=>?_⟩
  ·show [V.int _,V.ref l,V.int _]=_
   congr 3
   rw[q0a,q0n,q0Y,alen]
   congr 1
   lia
  rw[z5t ht] at hbs
  have hls:∀u∈ts',u.length=m+2:=fun u hu=>(hw' u hu).1.len
  have hus:=y4y ht hls
  have hub:=y4z ht hls (hw t (by simp)).2 (fun u hu=>(hw' u hu).2)
  refine⟨n,r2,bs,wd (drF t) ts',m,2*B+1,rfl,?_,er2,hbs,q0p (z8n _ _) (by lia),by lia,by lia,fun d hd=>⟨hus d hd,hub d hd⟩,?_,fun r3 H4 hr3 g4 er3=>?_⟩
  ·show [V.int _,V.ref r2]=_
   congr 2
   lia
  ·have:4^(m+1)=4^m*4:=Nat.pow_succ _ _
   rw[this] at hB
   have h1:1≤4^m:=Nat.one_le_pow _ _ (by decide)
   generalize 4^m=p at*
   have e:(B+2)*(p*4)=(B+2)*p*4:=by rw[Nat.mul_assoc]
   rw[e] at hB
   have e2:(2*B+1+2)*p=(B+2)*p*2 - p:=by
    have:(B+2)*p*2=(2*B+1+2)*p+p:=by grind
    lia
   lia
  have g24:=g3.trans g4
  have er1':=g24 _ _ er1
  refine⟨_,rfl,_,rfl,z0j (by show 1≤_;decide),fun z hz=>?_⟩
  have g5:=z0f hz (.lst [V.int 0])
  have e5:upd H4 z (.lst [V.int 0]) z=some (.lst [V.int 0]):=z0d
  generalize upd H4 z (.lst [V.int 0])=H5 at*
  have ln1:=z2X n (m+1) ts' fun u hu=>(hw' u hu).1
  have ln2:=z2X n m (wd (drF t) ts') hus
  refine⟨r3,z,_,_,rfl,rfl,g5 _ _ er3,e5,z0j (by rw[q0a,ln2];show m+1+1≤_;lia),fun z2 hz2=>?_⟩
  have ea:(bto n m (wd (drF t) ts')).map V.int++[V.int 0]=(bto n m (wd (drF t) ts')++[0]).map V.int:=by rw[q0x];rfl
  rw[ea]
  have g6:=z0f hz2 (.lst ((bto n m (wd (drF t) ts')++[0]).map V.int))
  have e6:upd H5 z2 (.lst ((bto n m (wd (drF t) ts')++[0]).map V.int)) z2=some (.lst ((bto n m (wd (drF t) ts')++[0]).map V.int)):=z0d
  generalize upd H5 z2 (.lst ((bto n m (wd (drF t) ts')++[0]).map V.int))=H6 at*
  have er6:=(g5.trans g6) _ _ er1'
  have g06:Same H H6:=g02.trans (g24.trans (g5.trans g6))
  have es:bto (n+1) (m+1) (ts'++[t])=List.zipWith (fun a b=>a - b) (bto n (m+1) ts') (bto n m (wd (drF t) ts')++[0]):=by
   rw[z6p,z5t ht];rfl
  rw[es] at q
  generalize bto n (m+1) ts'=xs at*
  generalize bto n m (wd (drF t) ts')++[0]=ys at*
  refine⟨r1,z2,true,true,_,_,rfl,SqL.of er6,SqL.of e6,fun D hD=>?_⟩
  refine z2e rfl (z1x K true true r1 z2 (xs.map V.int) (ys.map V.int)) hD (fun _=>true) (fun c=>match c with|(.int m,.int n)=> .int (m - n)|_=> .non) ?_ (fun H' g'=>⟨SqL.of (g' _ _ er6),SqL.of (g' _ _ e6)⟩) (z0j (by rw[q0Q,q0a,q0a];lia)) ?_ ?_ ?_
  ·intro p u v σ H hp S h
   exact⟨p,_,rfl,SqT.of hp,rfl,_,_,rfl,_,_,rfl,rfl,h⟩
  ·intro c hc Hc gc S h
   exact h
  ·intro c hc _ Hc gc S h
   obtain⟨m,n,rfl⟩:∃(m n:Int),c=(.int m,.int n):=by
    obtain⟨c1,c2⟩:=c
    obtain⟨h1,h2⟩:=q1o hc
    obtain⟨m,hm,rfl⟩:=q0g.mp h1
    obtain⟨n,hn,rfl⟩:=q0g.mp h2
    exact⟨m,n,rfl⟩
   exact⟨_,rfl,_,rfl,_,_,rfl,rfl,h⟩
  ·intro H' g' hD'
   rw[z0C] at hD'
   have em:((xs.map V.int).zip (ys.map V.int)).map (fun c=>match c with|(.int m,.int n)=>V.int (m - n)|_=> .non)=(List.zipWith (fun a b=>a - b) xs ys).map V.int:=by
    rw[z2f,q0C,List.zip_map,q0C]
    rfl
   rw[em] at hD'
   exact q D _ (g06.free hD) (g06.trans g') hD'
end
end L2
namespace L2
open PySem PySem.Spec PyProof.Rows
section
open Fr Wl Rk Pt Ld
open Builtin.Int (intBits)
variable {P:Program}{w:World}{K:PySem.W.Frag}{mg:Str→Option Value}{base:Heap}{f:Addr}{fd:FuncData}
theorem z8H {x b:Int} (hb:0<b):∃n d,y2D x b=[n,d]∧Low n d∧n*b=x*d∧n.natAbs≤x.natAbs∧d.natAbs≤b.natAbs:=by
 obtain⟨_,h1,h2,h3,h4⟩:=y6F (t:=x) (b:=b) (s:=(Int.gcd x b:Int)) (by lia) (by rw[if_neg (by lia)])
 exact⟨_,_,rfl,h1,h2,h3,h4⟩
def y6c (tf bf:Int→Int→Int→Int→Int):Sp:=fun vs H Q _=>∃(v u:V) (a b c d:Int),vs=[v,u]∧FrA H v a b∧FrA H u c d∧0<b∧0<d∧bf a b c d=b*d∧
 intBits a≤4000∧intBits b≤4000∧intBits c≤4000∧intBits d≤4000∧
 ∀(x y:Int) (p:Addr) (H':Hp),Low x y→x*(b*d)=tf a b c d*y→x.natAbs≤(tf a b c d).natAbs →y.natAbs≤(b*d).natAbs →Same H H'→H' p=some (.tup [.int x,.int y])→Q (.ref p) H'
abbrev y3Y:Sp:=y6c (fun a b c d=>a*d+c*b) (fun _ b _ d=>b*d)
abbrev y0u:Sp:=y6c (fun a _ c _=>a*c) (fun _ b _ d=>b*d)
abbrev y0T:Stmt:=top 10
theorem y4L:z0q ["one","other"] ["one","other"] (z0i y0T):=⟨rfl,rfl,rfl,by decide+kernel,rfl,by decide+kernel,by decide+kernel⟩
theorem y5g (T:Txt mg) (F:Fun K "plus" "plus" y0T f fd) (c_ratio:Cal P w K mg base 2 "ratio" ["top","bottom"] (z5x K)):FnOk P w K mg base CX0 3 f fd ["one","other"] y3Y:=by
 refine F.ok y4L (fun vs H Q E h=>?_) (fun cdv A outer s H vs Q E hr h=>?_)
 ·obtain⟨_,_,_,_,_,_,rfl,_⟩:=h;rfl
 obtain⟨_,_,a,b,c,d,rfl,⟨p1,rfl,h1⟩,⟨p2,rfl,h2⟩,b0,d0,_,za,zb,zc,zd,q⟩:=h
 refine⟨_,(z0e (z0o (z0m c_ratio hr rfl (z0a (z0v z1s (z0v z0I (z0G (z0P (K:=K) rfl) (pv 0) z0g (fun _ _=>rfl)) (z0G (z0P (K:=K) rfl) (pv 1) z0g (fun _ _=>rfl))) (z0v z0I (z0G (z0P (K:=K) rfl) (pv 1) z0g (fun _ _=>rfl)) (z0G (z0P (K:=K) rfl) (pv 0) z0g (fun _ _=>rfl)))) (z0a (z0v z0I (z0G (z0P (K:=K) rfl) (pv 0) z0g (fun _ _=>rfl)) (z0G (z0P (K:=K) rfl) (pv 1) z0g (fun _ _=>rfl))) z0c))))),?_⟩
 refine⟨_,rfl,_,_,_,_,rfl,rfl,SqT.of h1,rfl,_,rfl,_,_,_,_,rfl,rfl,SqT.of h2,rfl,_,_,rfl,rfl,z1u za zd,?_⟩
 refine⟨_,rfl,_,_,_,_,rfl,rfl,SqT.of h2,rfl,_,rfl,_,_,_,_,rfl,rfl,SqT.of h1,rfl,_,_,rfl,rfl,z1u zc zb,_,_,rfl,rfl,?_⟩
 refine⟨_,rfl,_,_,_,_,rfl,rfl,SqT.of h1,rfl,_,rfl,_,_,_,_,rfl,rfl,SqT.of h2,rfl,_,_,rfl,rfl,z1u zb zd,?_⟩
 have bd0:=q1y b0 d0
 refine⟨_,_,rfl,bd0,z0t (intBits_add_le (intBits_mul_le za zd) (intBits_mul_le zc zb)) (by decide),z0t (intBits_mul_le zb zd) (by decide),fun r H' _ g e=>?_⟩
 obtain⟨x,y,er,lo,cr,m1,m2⟩:=z8H (x:=a*d+c*b) bd0
 rw[er] at e
 exact q x y r H' lo cr m1 m2 g e
abbrev z7H:Stmt:=top 11
theorem y2P:z0q ["one","other"] ["one","other"] (z0i z7H):=⟨rfl,rfl,rfl,by decide+kernel,rfl,by decide+kernel,by decide+kernel⟩
theorem y3j (T:Txt mg) (F:Fun K "times" "times" z7H f fd) (c_ratio:Cal P w K mg base 2 "ratio" ["top","bottom"] (z5x K)):FnOk P w K mg base CX0 3 f fd ["one","other"] y0u:=by
 refine F.ok y2P (fun vs H Q E h=>?_) (fun cdv A outer s H vs Q E hr h=>?_)
 ·obtain⟨_,_,_,_,_,_,rfl,_⟩:=h;rfl
 obtain⟨_,_,a,b,c,d,rfl,⟨p1,rfl,h1⟩,⟨p2,rfl,h2⟩,b0,d0,_,za,zb,zc,zd,q⟩:=h
 refine⟨_,(z0e (z0o (z0m c_ratio hr rfl (z0a (z0v z0I (z0G (z0P (K:=K) rfl) (pv 0) z0g (fun _ _=>rfl)) (z0G (z0P (K:=K) rfl) (pv 1) z0g (fun _ _=>rfl))) (z0a (z0v z0I (z0G (z0P (K:=K) rfl) (pv 0) z0g (fun _ _=>rfl)) (z0G (z0P (K:=K) rfl) (pv 1) z0g (fun _ _=>rfl))) z0c))))),?_⟩
 refine⟨_,rfl,_,_,_,_,rfl,rfl,SqT.of h1,rfl,_,rfl,_,_,_,_,rfl,rfl,SqT.of h2,rfl,_,_,rfl,rfl,z1u za zc,?_⟩
 refine⟨_,rfl,_,_,_,_,rfl,rfl,SqT.of h1,rfl,_,rfl,_,_,_,_,rfl,rfl,SqT.of h2,rfl,_,_,rfl,rfl,z1u zb zd,?_⟩
 have bd0:=q1y b0 d0
 refine⟨_,_,rfl,bd0,z0t (intBits_mul_le za zc) (by decide),z0t (intBits_mul_le zb zd) (by decide),fun r H' _ g e=>?_⟩
 obtain⟨x,y,er,lo,cr,m1,m2⟩:=z8H (x:=a*c) bd0
 rw[er] at e
 exact q x y r H' lo cr m1 m2 g e
abbrev z7L:Stmt:=top 12
theorem y2U:z0q ["one","other"] ["one","other"] (z0i z7L):=⟨rfl,rfl,rfl,by decide+kernel,rfl,by decide+kernel,by decide+kernel⟩
def y0J:Sp:=fun vs H Q _=>∃(v u:V) (a b c d:Int),vs=[v,u]∧FrA H v a b∧FrA H u c d∧intBits a≤4000∧intBits b≤4000∧intBits c≤4000∧intBits d≤4000∧Q (.bl (decide (a*d<c*b))) H
theorem y3r (T:Txt mg) (F:Fun K "below" "below" z7L f fd):FnOk P w K mg base CX0 1 f fd ["one","other"] y0J:=by
 refine F.ok y2U (fun vs H Q E h=>?_) (fun cdv A outer s H vs Q E hr h=>?_)
 ·obtain⟨_,_,_,_,_,_,rfl,_⟩:=h;rfl
 obtain⟨_,_,a,b,c,d,rfl,⟨p1,rfl,h1⟩,⟨p2,rfl,h2⟩,za,zb,zc,zd,q⟩:=h
 refine⟨_,(z0e (z0o (z7P z4R (z0v z0I (z0G (z0P (K:=K) rfl) (pv 0) z0g (fun _ _=>rfl)) (z0G (z0P (K:=K) rfl) (pv 1) z0g (fun _ _=>rfl))) (z0v z0I (z0G (z0P (K:=K) rfl) (pv 1) z0g (fun _ _=>rfl)) (z0G (z0P (K:=K) rfl) (pv 0) z0g (fun _ _=>rfl))) (z0F _)))),?_⟩
 refine⟨_,rfl,_,_,_,_,rfl,rfl,SqT.of h1,rfl,_,rfl,_,_,_,_,rfl,rfl,SqT.of h2,rfl,_,_,rfl,rfl,z1u za zd,?_⟩
 refine⟨_,rfl,_,_,_,_,rfl,rfl,SqT.of h2,rfl,_,rfl,_,_,_,_,rfl,rfl,SqT.of h1,rfl,_,_,rfl,rfl,z1u zc zb,?_⟩
 exact⟨_,_,rfl,rfl,q⟩
def sgn (t:Int):Int:=if 0<t then 1 else if t<0 then -1 else 0
theorem y2N {x sn:Int} (hs:sn=1∨sn= -1) (h:0<sn*x):sgn x=sn:=by
 unfold sgn
 rcases hs with rfl|rfl
 ·rw[if_pos (by lia)]
 ·rw[if_neg (by lia),if_pos (by lia)]
theorem y6X {xs:List V}{u:V}:atI (xs++[u]) (-1)=some u:=by
 unfold atI ixN
 rw[if_neg (by decide),if_pos (by rw[q0n];have:([u]:List V).length =1:=rfl;lia)]
 show (xs++[u])[(-1+((xs++[u]).length :Int)).toNat]? =some u
 rw[show (-1+((xs++[u]).length :Int)).toNat =xs.length by rw[q0n];have:([u]:List V).length =1:=rfl;lia]
 simp
theorem y3t {x y x1 y1 x2 y2 nn dd n V S p:Int} (V0:V≠0) (y0:0<y) (y1p:0<y1) (d0:0<dd) (e:x*V=y*S) (c1:nn*V=p*dd) (c2:x1*(1*dd)=n*nn*y1) (c3:x2*(y*y1)=(x*y1+x1*y)*y2):x2*V=y2*(S+n*p):=by
 have h1:x1*V=n*p*y1:=by
  have:dd*(x1*V)=dd*(n*p*y1):=by
   have a1:dd*(x1*V)=x1*(1*dd)*V:=by grind
   rw[a1,c2]
   have a2:n*nn*y1*V=n*y1*(nn*V):=by grind
   rw[a2,c1]
   grind
  exact q1E (by lia) this
 have:(y*y1)*(x2*V)=(y*y1)*(y2*(S+n*p)):=by
  have a1:(y*y1)*(x2*V)=x2*(y*y1)*V:=by grind
  rw[a1,c3]
  have a2:(x*y1+x1*y)*y2*V=((x*V)*y1+(x1*V)*y)*y2:=by grind
  rw[a2,e,h1]
  grind
 exact q1E (by have:=q1y y0 y1p;lia) this
abbrev y0S:Stmt:=top 16
theorem sc_side:z0q ["wall","point","total","number","along","last"] ["wall","point"] (z0i y0S):=⟨rfl,rfl,rfl,by decide+kernel,rfl,by decide+kernel,by decide+kernel⟩
def y3X (K:PySem.W.Frag):Sp:=fun vs H Q _=>∃(a pp:Addr) (bs:List Addr) (t sp:List Int) (m:Nat),vs=[.ref a,.ref pp]∧H a=some (.tup (t.map V.int))∧H pp=some (.tup (bs.map V.ref))∧TsA H bs (sp.dropLast.map fun x=>y2D x (v sp m))∧Spt m sp∧t.length=m+1∧m≤4∧(∀n∈t,intBits n≤64)∧(∀n∈sp,intBits n≤500)∧
 ∀H',Same H H'→Q (.int (sgn (hg m (v t) (v sp)))) H'
theorem y5f (T:Txt mg) (F:Fun K "side" "side" y0S f fd) (c_plus:Cal P w K mg base 3 "plus" ["one","other"] y3Y) (c_times:Cal P w K mg base 3 "times" ["one","other"] y0u) (c_below:Cal P w K mg base 3 "below" ["one","other"] y0J):FnOk P w K mg base CX0 4 f fd ["wall","point"] (y3X K):=by
 refine F.ok sc_side (fun vs H Q E h=>?_) (fun cdv A outer s H vs Q E hr h=>?_)
 ·obtain⟨_,_,_,_,_,_,rfl,_⟩:=h;rfl
 obtain⟨a,pp,bs,t,sp,m,rfl,ha,hpp,hbs,⟨sl,vp⟩,tl,m4,tb,sb,q⟩:=h
 refine⟨_,(z0b (z0p (i:=2) sc_side.nd rfl (Or.inl rfl) (z1P (z0a z0g (z0a z0g z0c))))
  (z0b (z0T PassesOwn.never rfl (z2A (K:=K) rfl rfl T.zip (z0a (pv 0) (z0a (pv 1) z0c))) (z0S (K:=K) rfl 2 rfl (z0u (z0k (i:=3) sc_side.nd rfl (Or.inl rfl)) (z0u (z0k (i:=4) sc_side.nd rfl (Or.inl rfl)) z0R))) (z0e (z0p (i:=2) sc_side.nd rfl (Or.inl rfl) (z0m c_plus hr rfl (z0a (pv 2) (z0a (z0m c_times hr rfl (z0a (z1P (z0a (pv 3) (z0a z0g z0c))) (z0a (pv 4) z0c))) z0c))))))
  (z0b (z0p (i:=5) sc_side.nd rfl (Or.inl rfl) (z1P (z0a (z0G (z0P (K:=K) rfl) (pv 0) (z1E z1c z0g) (fun _ _=>rfl)) (z0a z0g z0c))))
  (z0b (z0J (z0W (z0m c_below hr rfl (z0a (pv 5) (z0a (pv 2) z0c)))) (z0e (z0o z0g)) z0y)
  (z0b (z0J (z0W (z0m c_below hr rfl (z0a (pv 2) (z0a (pv 5) z0c)))) (z0e (z0o (z1E z1c z0g))) z0y)
  (z0e (z0o z0g))))))),?_⟩
 obtain⟨t',y0,et'⟩:∃a' x,t=a'++[x]:=⟨t.dropLast,t.getLast (fun z=>by rw[z] at tl;simp at tl),(q0y _).symm⟩
 have tl':t'.length=m:=by rw[et',q0n] at tl;simpa using tl
 have ha':H a=some (.tup (t'.map V.int++[V.int y0])):=by rw[ha,et',q0x];rfl
 have ey:v t m=y0:=by
  show t.getD m 0=y0
  rw[et',q0b,q0D (by lia),tl',q1n];rfl
 have bl:bs.length=m:=by rw[hbs.1,q0a,q1a,sl];rfl
 have zb:∀{k:Nat}{z:Int},intBits z≤k→k≤4000→intBits z≤4000:=fun h1 h2=>q0p h1 h2
 refine z0w (fun σ H'=>∃p0,σ=[some (.ref a),some (.ref pp),some (.ref p0),none,none,none]∧Same H H'∧H' p0=some (.tup [.int 0,.int 1])) (fun N hN=>?_) ?_
 ·exact⟨z0j (by show 2≤_;decide),fun p0 hp0=>hN _ _ ⟨p0,rfl,z0f hp0 _,z0d⟩⟩
 rintro σ H1 ⟨p0,rfl,g1,e0⟩
 refine z0w (fun σ H'=>∃tv x y s3 s4,σ=[some (.ref a),some (.ref pp),some tv,s3,s4,none]∧Same H H'∧FrA H' tv x y∧0<y∧x*v sp m=y*sumTo m (fun j=>v t j*v sp j)∧intBits x≤3000∧intBits y≤3000) (fun N hN=>?_) ?_
 ·refine⟨_,rfl,_,rfl,a,pp,false,false,_,_,rfl,SqT.of (g1 _ _ ha),SqT.of (g1 _ _ hpp),?_⟩
  refine z0E (z1x K false false a pp (t.map V.int) (bs.map V.ref)) (fun i σ H'=>∃tv x y s3 s4,σ=[some (.ref a),some (.ref pp),some tv,s3,s4,none]∧Same H H'∧FrA H' tv x y∧0<y∧x*v sp m=y*sumTo i (fun j=>v t j*v sp j)∧intBits x≤600+600*i∧intBits y≤1+600*i)
   ⟨_,0,1,_,_,rfl,g1,⟨p0,rfl,e0⟩,by decide,by show 0*v sp m=1*0;lia,by decide,by decide⟩ (fun i σ H' _ h=>by obtain⟨_,_,_,_,_,_,g,_⟩:=h;exact⟨SqT.of (g _ _ ha),SqT.of (g _ _ hpp)⟩) ?_ ?_
  ·clear g1 e0
   rintro i xx σ H2 H3 hi ⟨tv,x,y,s3,s4,rfl,g,fr,yp,eq,zx,zy⟩ ⟨p,u,u2,rfl,hp,huv,rfl⟩
   rw[q0Q,q0a,q0a,tl,bl] at hi
   rw[q0K,q0h,q0h] at huv
   obtain⟨n,hn,rfl⟩:=q0v.mp huv.1
   obtain⟨bi,hbi,rfl⟩:=q0v.mp huv.2
   have k1:=z0f hp (.tup [V.int n,V.ref bi])
   have w1:upd H2 p (.tup [V.int n,V.ref bi]) p=some (.tup [V.int n,V.ref bi]):=z0d
   generalize upd H2 p (.tup [V.int n,V.ref bi])=H4 at*
   have g4:=g.trans k1
   have ex:sp.dropLast[i]? =some (v sp i):=by
        rw[List.getElem?_dropLast,if_pos (by lia),q0c (by lia)]
        show _=some (sp.getD i 0)
        rw[q0b,q0c (by lia)];rfl
   have eb:=g4 _ _ (hbs.2 i bi _ hbi (by rw[q0h,ex];rfl))
   obtain⟨nn,dd,er,lo,cr,n1,n2⟩:=z8H (x:=v sp i) vp
   have eb:H4 bi=some (.tup [V.int nn,V.int dd]):=by rw[eb];show some (HO.tup ((y2D (v sp i) (v sp m)).map V.int))=_;rw[er];rfl
   have hnb:intBits n≤64:=tb n (q0E hn)
   have hnn:intBits nn≤500:=intBits_le_of_natAbs n1 (z1d sb i)
   have hdd:intBits dd≤500:=intBits_le_of_natAbs n2 (z1d sb m)
   have hvn:v t i=n:=by
        show t.getD i 0=n
        rw[q0b,hn];rfl
   refine⟨p,_,rfl,SqT.of w1,rfl,_,_,rfl,_,_,rfl,rfl,?_⟩
   refine⟨_,rfl,_,rfl,z0j (by show 2≤_;decide),fun q1 hq1=>?_⟩
   have k2:=z0f hq1 (.tup [V.int n,V.int 1])
   have w2:upd H4 q1 (.tup [V.int n,V.int 1]) q1=some (.tup [V.int n,V.int 1]):=z0d
   generalize upd H4 q1 (.tup [V.int n,V.int 1])=H5 at*
   refine⟨_,rfl,_,_,n,1,nn,dd,rfl,⟨q1,rfl,w2⟩,⟨bi,rfl,k2 _ _ eb⟩,by decide,lo.pos,rfl,zb hnb (by decide),by decide,zb hnn (by decide),zb hdd (by decide),fun x1 y1 r1 H6 lo1 c1 m1 m2 g6 e6=>?_⟩
   have zx1:intBits x1≤64+500:=intBits_le_of_natAbs m1 (intBits_mul_le hnb hnn)
   have zy1:intBits y1≤1+500:=intBits_le_of_natAbs m2 (intBits_mul_le (show intBits 1≤1 by decide) hdd)
   have gg:=k1.trans (k2.trans g6)
   refine⟨_,_,x,y,x1,y1,rfl,fr.same gg,⟨r1,rfl,e6⟩,yp,lo1.pos,rfl,zb zx (by lia),zb zy (by lia),zb zx1 (by decide),zb zy1 (by decide),fun x2 y2 r2 H7 lo2 c3 m3 m4' g7 e7=>?_⟩
   refine⟨_,x2,y2,_,_,rfl,g.trans (gg.trans g7),⟨r2,rfl,e7⟩,lo2.pos,?_,?_,?_⟩
   ·show _=y2*(sumTo i _+v t i*v sp i)
    rw[hvn]
    exact y3t (by lia) yp lo1.pos lo.pos eq cr c1 c3
   ·exact z0t (intBits_le_of_natAbs m3 (intBits_add_le (intBits_mul_le zx zy1) (intBits_mul_le zx1 zy))) (by lia)
   ·exact z0t (intBits_le_of_natAbs m4' (intBits_mul_le zy zy1)) (by lia)
  ·rintro σ H2 ⟨tv,x,y,s3,s4,rfl,g,fr,yp,eq,zx,zy⟩
   have em:((t.map V.int).zip (bs.map V.ref)).length =m:=by rw[q0Q,q0a,q0a,tl,bl];lia
   rw[em] at eq zx zy
   exact hN _ _ ⟨tv,x,y,_,_,rfl,g,fr,yp,eq,z0t zx (by lia),z0t zy (by lia)⟩
 clear g1 e0
 rintro σ H2 ⟨tv,x,y,s3,s4,rfl,g,fr,yp,eq,zx,zy⟩
 refine z0w (fun σ H'=>∃l,σ=[some (.ref a),some (.ref pp),some tv,s3,s4,some (.ref l)]∧Same H2 H'∧FrA H' (.ref l) y0 1) (fun N hN=>?_) ?_
 ·refine⟨_,rfl,_,rfl,_,_,_,_,rfl,rfl,SqT.of (g _ _ ha'),y6X,z0j (by show 2≤_;decide),fun l hl=>hN _ _ ⟨l,rfl,z0f hl _,l,rfl,z0d⟩⟩
 rintro σ H3 ⟨l,rfl,g3,fl⟩
 have fr3:=fr.same g3
 have hy0:intBits y0≤64:=tb y0 (by rw[et'];simp)
 have key:(x - y0*y)*v sp m=y*hg m (v t) (v sp):=by
  unfold hg
  rw[ey]
  grind
 have h1:(y0*y<x)↔0<hg m (v t) (v sp):=by
  constructor
  ·intro h
   have:=q1y (show 0<x - y0*y by lia) vp
   rw[key] at this
   exact Int.lt_of_mul_lt_mul_left (a:=y) (by rw[q0M];exact this) (by lia)
  ·intro h
   have:=q1y yp h
   rw[←key] at this
   have h3:0*v sp m<(x - y0*y)*v sp m:=by rw[Int.zero_mul];exact this
   have:=Int.lt_of_mul_lt_mul_right h3 (by lia)
   lia
 have h2:(x<y0*y)↔hg m (v t) (v sp)<0:=by
  constructor
  ·intro h
   have:=Int.mul_neg_of_neg_of_pos (show x - y0*y<0 by lia) vp
   rw[key] at this
   exact Int.lt_of_mul_lt_mul_left (a:=y) (by rw[q0M];exact this) (by lia)
  ·intro h
   have:=q1D yp h
   rw[←key] at this
   have h3:(x - y0*y)*v sp m<0*v sp m:=by rw[Int.zero_mul];exact this
   have:=Int.lt_of_mul_lt_mul_right h3 (by lia)
   lia
 have qq:=q H3 (g.trans g3)
 unfold sgn at qq
 refine⟨_,rfl,_,rfl,_,_,y0,1,x,y,rfl,fl,fr3,zb hy0 (by decide),by decide,zb zx (by decide),zb zy (by decide),_,rfl,?_⟩
 refine z3i (fun c=>?_) (fun c=>?_)
 ·have c':y0*y<x*1:=of_decide_eq_true c
  rw[if_pos (h1.mp (by lia))] at qq
  exact qq
 ·have c':¬y0*y<x*1:=fun z=>c (decide_eq_true z)
  rw[if_neg (fun z=>by have:=h1.mpr z;lia)] at qq
  refine⟨_,rfl,_,rfl,_,_,x,y,y0,1,rfl,fr3,fl,zb zx (by decide),zb zy (by decide),zb hy0 (by decide),by decide,_,rfl,?_⟩
  refine z3i (fun d=>?_) (fun d=>?_)
  ·have d':x*1<y0*y:=of_decide_eq_true d
   rw[if_pos (h2.mp (by lia))] at qq
   exact⟨_,rfl,qq⟩
  ·have d':¬x*1<y0*y:=fun z=>d (decide_eq_true z)
   rw[if_neg (fun z=>by have:=h2.mpr z;lia)] at qq
   exact qq
end
end L2
namespace L2
open PySem PySem.Spec PyProof.Rows
section
open Fr Wl Rk Pt Ld
open PySem.W (kitAny kitOne exmOne keepIn)
open Builtin.Int (intBits)
variable {P:Program}{w:World}{K:PySem.W.Frag}{mg:Str→Option Value}{base:Heap}{f:Addr}{fd:FuncData}
structure Hl (K:PySem.W.Frag) (mg:Str→Option Value) (C fP fT fW fY fL fO:Addr):Prop where
 mg:mg "Hall"=some (.ref C)
 cl:Cls K C
 nW:NoAttr K C "ways"
 nS:NoAttr K C "standing"
 mput:y3S K C "put" fP
 mtake:y3S K C "take" fT
 mwalls:y3S K C "walls" fW
 mpoly:y3S K C "polynomial" fY
 mlands:y3S K C "lands" fL
 mouts:y3S K C "ways_out" fO
abbrev z3r:Stmt:=z2W (top 51) 0
abbrev z9u:Stmt:=z2W (top 51) 1
abbrev z5b:Stmt:=z2W (top 51) 2
abbrev z3k:Stmt:=z2W (top 51) 3
abbrev z5c:Stmt:=z2W (top 51) 4
abbrev z2G:Stmt:=z2W (top 51) 5
abbrev z3q:Stmt:=z2W (top 51) 6
theorem y2T:z0q ["self","ways"] ["self","ways"] (z0i z3r):=⟨rfl,rfl,rfl,by decide+kernel,rfl,by decide+kernel,by decide+kernel⟩
theorem sc_put:z0q ["self","numbers","made"] ["self","numbers"] (z0i z9u):=⟨rfl,rfl,rfl,by decide+kernel,rfl,by decide+kernel,by decide+kernel⟩
theorem y4J:z0q ["self","place"] ["self","place"] (z0i z5b):=⟨rfl,rfl,rfl,by decide+kernel,rfl,by decide+kernel,by decide+kernel⟩
theorem y2O:z0q ["self"] ["self"] (z0i z3k):=⟨rfl,rfl,rfl,by decide+kernel,rfl,by decide+kernel,by decide+kernel⟩
theorem y4K:z0q ["self"] ["self"] (z0i z5c):=⟨rfl,rfl,rfl,by decide+kernel,rfl,by decide+kernel,by decide+kernel⟩
theorem y0P:z0q ["self"] ["self"] (z0i z2G):=⟨rfl,rfl,rfl,by decide+kernel,rfl,by decide+kernel,by decide+kernel⟩
theorem y2S:z0q ["self"] ["self"] (z0i z3q):=⟨rfl,rfl,rfl,by decide+kernel,rfl,by decide+kernel,by decide+kernel⟩
theorem z4w {α β:Type} (g:α→β):∀(l:List α) (n:Nat),(l.map g).eraseIdx n=(l.eraseIdx n).map g
 |[],_=>rfl
 |a::l,0=>rfl
 |a::l,n+1=>by rw[List.map_cons,List.eraseIdx_cons_succ,List.eraseIdx_cons_succ,List.map_cons,z4w g l n]
abbrev hFs (m:Int) (st:Addr):List (Str×V):=[("ways",.int m),("standing",.ref st)]
def y0G (C:Addr):Sp:=fun vs H Q _=>∃(x dx:Addr) (m:Int),vs=[.ref x,.int m]∧H x=some (.ins C dx [])∧∀st,H st=none→Q .non (upd (upd (upd H x (.ins C dx [("ways",.int m)])) st (.lst [])) x (.ins C dx (hFs m st)))
variable {C fP fT fW fY fL fO:Addr}{fdL:FuncData}
theorem y3p (hl:Hl K mg C fP fT fW fY fL fO) (F:Fun K "__init__" "Hall.__init__" z3r f fd):FnOk P w K mg base CX0 1 f fd ["self","ways"] (y0G C):=by
 refine F.ok y2T (fun vs H Q E h=>?_) (fun cdv A outer s H vs Q E hr h=>?_)
 ·obtain⟨_,_,_,rfl,_⟩:=h;rfl
 obtain⟨x,dx,m,rfl,hx,q⟩:=h
 refine⟨_,(z0b (y4c (pv 0) (pv 1) rfl) (z0e (y4c (pv 0) (z0O z0c) rfl))),?_⟩
 refine⟨_,rfl,_,rfl,x,C,dx,[],rfl,hx,hl.cl,hl.nW,by decide,?_⟩
 refine⟨q0S _,fun st hst=>?_⟩
 have sx:st≠x:=fun z=>by rw[z,z0d] at hst;cases hst
 rw[z0l sx] at hst
 refine⟨_,rfl,x,C,dx,[("ways",.int m)],rfl,by rw[z0l sx.symm,z0d];rfl,hl.cl,hl.nS,by show 1<1000;decide,?_⟩
 exact q st hst
def z5z (C:Addr):Sp:=fun vs H Q _=>∃(x dx st:Addr) (m:Int) (as:List Addr),vs=[.ref x]∧H x=some (.ins C dx (hFs m st))∧H st=some (.lst (as.map V.ref))∧∀l,H l=none→Q (.ref l) (upd H l (.lst (as.map V.ref)))
theorem y1B (T:Txt mg) (hl:Hl K mg C fP fT fW fY fL fO) (F:Fun K "walls" "Hall.walls" z3k f fd):FnOk P w K mg base CX0 1 f fd ["self"] (z5z C):=by
 refine F.ok y2O (fun vs H Q E h=>?_) (fun cdv A outer s H vs Q E hr h=>?_)
 ·obtain⟨_,_,_,_,_,rfl,_⟩:=h;rfl
 obtain⟨x,dx,st,m,as,rfl,hx,hst,q⟩:=h
 refine⟨_,(z0e (z0o (z1i (z2J (K:=K) rfl) rfl T.list boot_list (z0a (z2N (pv 0) rfl) z0c)))),?_⟩
 exact⟨_,rfl,x,C,dx,_,_,rfl,hx,hl.cl,hl.nS,rfl,st,_,rfl,.inl (SqL.of hst),fun l hl=>q l hl⟩
def y0D (C:Addr):Sp:=fun vs H Q E=>∃(x dx st:Addr) (m:Int) (n:Nat) (as:List Addr),vs=[.ref x,.int (n:Nat)]∧H x=some (.ins C dx (hFs m st))∧H st=some (.lst (as.map V.ref))∧as.length≤1000∧n<as.length∧Q .non (upd H st (.lst ((as.eraseIdx n).map V.ref)))
theorem y3m (T:Txt mg) (hl:Hl K mg C fP fT fW fY fL fO) (F:Fun K "take" "Hall.take" z5b f fd):FnOk P w K mg base CX0 1 f fd ["self","place"] (y0D C):=by
 refine F.ok y4J (fun vs H Q E h=>?_) (fun cdv A outer s H vs Q E hr h=>?_)
 ·obtain⟨_,_,_,_,_,_,rfl,_⟩:=h;rfl
 obtain⟨x,dx,st,m,n,as,rfl,hx,hst,a1000,hn,q⟩:=h
 refine⟨_,(z0b (z0J (PW.pt (z3G (z0A z4R (pv 1) z0g (z0F _)) (z3a (z0A op_ge (pv 1) (z0x (z0M (K:=K) rfl) rfl T.len PySem.boot_len (z0a (z2N (pv 0) rfl) z0c)) (z0F _))))) (z0e z3c) z0y)
  (z0e (z1o (z4q PySem.F.plainAttrs_list PySem.F.slot_list_pop PySem.F.type_list_pop z8T (z2N (pv 0) rfl) (z0a (pv 1) z0c))))),?_⟩
 refine⟨_,rfl,_,_,rfl,rfl,_,rfl,?_⟩
 refine z3i (fun c=>?_) (fun c=>?_)
 ·have:=of_decide_eq_true c
  lia
 refine⟨_,rfl,_,rfl,x,C,dx,_,_,rfl,hx,hl.cl,hl.nS,rfl,st,_,rfl,.inl (SqL.of hst),_,_,rfl,rfl,_,rfl,?_⟩
 rw[q0a]
 refine z3i (fun c2=>?_) (fun c2=>?_)
 ·have:=of_decide_eq_true c2
  lia
 refine⟨_,rfl,x,C,dx,_,_,rfl,hx,hl.cl,hl.nS,rfl,.inl ⟨rfl,_,SqL.of hst⟩,_,rfl,st,_,_,n,.ref as[n],rfl,rfl,hst,by lia,by lia,?_,by rw[q0h,q0c hn];rfl,?_⟩
 ·unfold seqIndex?
  rw[q0a]
  dsimp only
  have e1:(if (n:Int)<0 then (n:Int)+(as.length:Int) else (n:Int))=(n:Int):=if_neg (by lia)
  rw[e1,decide_eq_true (show 0≤(n:Int) by lia),decide_eq_true (show (n:Int)<(as.length:Int) by lia)]
  rfl
 ·have e:(as.map V.ref).eraseIdx n=(as.eraseIdx n).map V.ref:=z4w V.ref as n
  rw[e]
  exact q
def y6b (K:PySem.W.Frag) (C:Addr):Sp:=fun vs H Q E=>∃(x dx st p:Addr) (m:Int) (as:List Addr) (ts:List (List Int)) (ns:List Int) (last:Int),vs=[.ref x,.ref p]∧H x=some (.ins C dx (hFs m st))∧H st=some (.lst (as.map V.ref))∧TsA H as ts∧ts.length≤100∧H p=some (.lst ((ns++[last]).map V.int))∧(ns++[last]).length ≤1000∧(∀n∈ns++[last],intBits n≤9000)∧
 (∃n∈ns,n≠0)∧z0n (ns++[last])∉ts∧∀t H1,Same H H1→H1 t=some (.tup ((z0n (ns++[last])).map V.int))→Q .non (upd H1 st (.lst ((as++[t]).map V.ref)))
theorem y6B (T:Txt mg) (hl:Hl K mg C fP fT fW fY fL fO) (F:Fun K "put" "Hall.put" z9u f fd) (c_wall:Cal P w K mg base 3 "wall" ["numbers"] (z8w K)):FnOk P w K mg base CX0 4 f fd ["self","numbers"] (y6b K C):=by
 refine F.ok sc_put (fun vs H Q E h=>?_) (fun cdv A outer s H vs Q E hr h=>?_)
 ·obtain⟨_,_,_,_,_,_,_,_,_,rfl,_⟩:=h;rfl
 obtain⟨x,dx,st,p,m,as,ts,ns,last,rfl,hx,hst,hts,t100,hp,plen,pb,hnz,hni,q⟩:=h
 refine⟨_,(z0b (z0p (i:=2) sc_put.nd rfl (Or.inl rfl) (z0m c_wall hr rfl (z0a (pv 1) z0c)))
  (z0b (z0J (z0A (y4Z (K:=K) rfl hr.units) (pv 2) (z2N (pv 0) rfl) (by with_unfolding_all rfl)) (z0e z3c) z0y)
  (z0e (z1o (z4q PySem.F.plainAttrs_list PySem.F.slot_list_append PySem.F.type_list_append z1j (z2N (pv 0) rfl) (z0a (pv 2) z0c)))))),?_⟩
 refine⟨_,rfl,p,ns,last,rfl,.inl (SqL.of hp),plen,pb,hnz,fun t H1 g1 ht=>?_⟩
 have hx1:=g1 _ _ hx
 have hst1:=g1 _ _ hst
 have hts1:=hts.same g1
 refine⟨_,rfl,_,rfl,x,C,dx,_,_,rfl,hx1,hl.cl,hl.nS,rfl,st,_,_,_,rfl,.inl (SqL.of hst1),hts1.isDs,z9V ht,y5e,_,rfl,?_⟩
 rw[y6Y,decide_eq_false hni]
 refine z1I ?_
 refine⟨_,rfl,x,C,dx,_,_,rfl,hx1,hl.cl,hl.nS,rfl,.inl ⟨rfl,_,SqL.of hst1⟩,_,rfl,st,_,_,rfl,rfl,hst1,z2n (by rw[q0a,hts.1];lia),?_⟩
 have e:(as++[t]).map V.ref=as.map V.ref++[V.ref t]:=by rw[q0x];rfl
 rw[←e]
 exact q t _ g1 ht
structure HA (C:Addr) (H:Hp) (x dx st:Addr) (m:Nat) (as:List Addr) (ts:List (List Int)):Prop where
 hx:H x=some (.ins C dx (hFs (m:Nat) st))
 hst:H st=some (.lst (as.map V.ref))
 rows:TsA H as ts
theorem HA.same {H H':Hp}{x dx st:Addr}{m:Nat}{as:List Addr}{ts:List (List Int)} (h:HA C H x dx st m as ts) (g:Same H H'):HA C H' x dx st m as ts:=⟨g _ _ h.hx,g _ _ h.hst,h.rows.same g⟩
structure Wls (m:Nat) (ts:List (List Int)):Prop where
 m3:m≤3
 n4:ts.length≤4
 wl:∀t∈ts,WL m t
 nd:ts.Nodup
 bd:∀t∈ts,∀n∈t,intBits n≤3
theorem Wls.bds {m:Nat}{ts:List (List Int)} (h:Wls m ts):∀u∈ts,Bd m 3 3 u:=fun u hu=>⟨(h.wl u hu).len,fun j _=>z1d (h.bd u hu) j,z1d (h.bd u hu) m⟩
theorem Wls.lim {m:Nat}{ts:List (List Int)} (h:Wls m ts):z6W m 3 3=true:=by
 have:=h.m3
 rcases (by lia:m=0∨m=1∨m=2∨m=3) with rfl|rfl|rfl|rfl<;>decide
theorem Wls.sb {m:Nat}{ts:List (List Int)} (h:Wls m ts):Sb m 3 3≤500:=by
 have:=h.m3
 rcases (by lia:m=0∨m=1∨m=2∨m=3) with rfl|rfl|rfl|rfl<;>decide
def y0E (K:PySem.W.Frag) (C:Addr):Sp:=fun vs H Q _=>∃(x dx st:Addr) (m:Nat) (as:List Addr) (ts:List (List Int)),vs=[.ref x]∧HA C H x dx st m as ts∧Wls m ts∧
 ∀(r:Addr) (H':Hp),H r=none→Same H H'→H' r=some (.lst ((bto 4 m ts).map V.int))→Q (.ref r) H'
theorem y3n (hl:Hl K mg C fP fT fW fY fL fO) (F:Fun K "polynomial" "Hall.polynomial" z5c f fd) (c_bto:Cal P w K mg base 18 "by_taking_out" ["ways","walls"] (y4F K 5)):FnOk P w K mg base CX0 19 f fd ["self"] (y0E K C):=by
 refine F.ok y4K (fun vs H Q E h=>?_) (fun cdv A outer s H vs Q E hr h=>?_)
 ·obtain⟨_,_,_,_,_,_,rfl,_⟩:=h;rfl
 obtain⟨x,dx,st,m,as,ts,rfl,hA,hW,q⟩:=h
 refine⟨_,(z0e (z0o (z0m c_bto hr rfl (z0a (z2N (pv 0) rfl) (z0a (z2N (pv 0) rfl) z0c))))),?_⟩
 have m3:=hW.m3
 refine⟨_,rfl,x,C,dx,_,_,rfl,hA.hx,hl.cl,hl.nW,rfl,_,rfl,x,C,dx,_,_,rfl,hA.hx,hl.cl,hl.nS,rfl,4,st,as,ts,m,3,rfl,rfl,hA.hst,hA.rows,hW.n4,by decide,by lia,fun t ht=>⟨hW.wl t ht,hW.bd t ht⟩,?_,q⟩
 rcases (by lia:m=0∨m=1∨m=2∨m=3) with rfl|rfl|rfl|rfl<;>decide
def z5A (K:PySem.W.Frag) (C:Addr):Sp:=fun vs H Q _=>∃(x dx st:Addr) (m:Nat) (as:List Addr) (ts:List (List Int)),vs=[.ref x]∧HA C H x dx st m as ts∧Wls m ts∧
 ∀(r:Addr) (xs:List V) (ds:List LandD) (H':Hp),H r=none→Same H H'→H' r=some (.lst xs)→Each (LandPt H' m) ds xs→(∀d∈ds,z2Y m 3 3 ts d)→ds.map LandD.sg=sgN m ts ts.length→Q (.ref r) H'
theorem y1C (hl:Hl K mg C fP fT fW fY fL fO) (F:Fun K "lands" "Hall.lands" z2G f fd) (c_lands_lands:Cal P w K mg base 18 "lands_lands" ["ways","walls"] (z7z K)):FnOk P w K mg base CX0 19 f fd ["self"] (z5A K C):=by
 refine F.ok y0P (fun vs H Q E h=>?_) (fun cdv A outer s H vs Q E hr h=>?_)
 ·obtain⟨_,_,_,_,_,_,rfl,_⟩:=h;rfl
 obtain⟨x,dx,st,m,as,ts,rfl,hA,hW,q⟩:=h
 refine⟨_,(z0e (z0o (z0m c_lands_lands hr rfl (z0a (z2N (pv 0) rfl) (z0a (z2N (pv 0) rfl) z0c))))),?_⟩
 have m3:=hW.m3
 exact⟨_,rfl,x,C,dx,_,_,rfl,hA.hx,hl.cl,hl.nW,rfl,_,rfl,x,C,dx,_,_,rfl,hA.hx,hl.cl,hl.nS,rfl,m,st,as,ts,3,3,rfl,hA.hst,hA.rows,hW.bds,hW.lim,by lia,by have:=hW.n4;lia,q⟩
end
end L2
namespace L2
open PySem PySem.Spec PyProof.Rows
section
open Fr Wl Rk
open Builtin.Int (intBits)
variable {P:Program}{w:World}{K:PySem.W.Frag}{mg:Str→Option Value}{base:Heap}{f:Addr}{fd:FuncData}
theorem z6z {rs:List Int} (h:0<rs.length):∃ns last,rs=ns++[last]:=⟨rs.dropLast,rs.getLast (fun z=>by rw[z] at h;simp at h),(q0y _).symm⟩
theorem z8e {m:Nat}:∀(l:List Nat) (k:Nat),l.Pairwise (· < ·)→(∀x∈l,k≤x∧x<m)→l.length≤m - k
 |[],_,_,_=>Nat.zero_le _
 |x::l,k,hp,h=>by
  have hx:=h x q0k
  have:=z8e l (x+1) (q1B.mp hp).2 fun y hy=>⟨(q1B.mp hp).1 y hy,(h y (q0f _ hy)).2⟩
  rw[q0F]
  lia
theorem Rk.Rws.len {m:Nat}{us:List (List Int)} (h:Rws m us):us.length≤m:=by
 have:=z8e (m:=m) (us.map fp) 0 (by rw[q1e];exact h.up) fun x hx=>by
  obtain⟨t,ht,rfl⟩:=q0g.mp hx
  exact⟨q0S _,(h.row t ht).2.1⟩
 rw[q0a] at this
 exact this
def bnJ (B:Nat):Nat→Nat
 |0=>0
 |k+1=>bnJ B k+(B+k*(bnJ B k+1))+1
theorem bnJ3 {B k:Nat} (hB:B≤130) (hk:k≤3):bnJ B k≤1315:=by
 rcases (by lia:k=0∨k=1∨k=2∨k=3) with e|e|e|e<;>subst e<;>simp only[bnJ]<;>lia
theorem bnJ4 {B k:Nat} (hB:B≤130) (hk:k≤4):bnJ B k≤5394:=by
 rcases (by lia:k=0∨k=1∨k=2∨k=3∨k=4) with e|e|e|e|e<;>subst e<;>simp only[bnJ]<;>lia
def z8z (K:PySem.W.Frag):Sp:=fun vs H Q _=>∃(l p:Addr) (bs:List Addr) (us:List (List Int)) (xs:List Int) (m B:Nat),vs=[.ref l,.ref p]∧H l=some (.lst (bs.map V.ref))∧TsA H bs us∧H p=some (.tup (xs.map V.int))∧xs.length=m+1∧m≤4∧B≤130∧(∀n∈xs,intBits n≤B)∧Rws m us∧(∀t∈us,∀n∈t,intBits n≤bnJ B us.length)∧
 (∀(r:Addr) (bs':List Addr) (us':List (List Int)) (H':Hp),H r=none→Same H H'→H' r=some (.lst (bs'.map V.ref))→TsA H' bs' us'→Rws m us'→(∀t∈us',∀n∈t,intBits n≤bnJ B us'.length)→In (us'.map v)=In (v xs::us.map v)→Q (.ref r) H')∧
 (∀H',Same H H'→(∃z,In (v xs::us.map v) z∧(∀j,j<m→z j=0)∧z m≠0)→Q .non H')
theorem z9b {m j:Nat}:∀(l:List Nat) (k:Nat),l.Pairwise (· < ·)→(∀x∈l,k≤x∧x<m)→j∉l→k≤j→j<m→l.length+1≤m - k
 |[],k,_,_,_,h1,h2=>by rw[List.length_nil];lia
 |x::l,k,hp,h,hj,h1,h2=>by
  have hx:=h x q0k
  have hne:x≠j:=fun e=>hj (by rw[e];exact q0k)
  have low:=(q1B.mp hp).1
  rw[q0F]
  by_cases hlt:x<j
  ·have:=z9b (m:=m) (j:=j) l (x+1) (q1B.mp hp).2 (fun y hy=>⟨low y hy,(h y (q0f _ hy)).2⟩) (fun z=>hj (q0f _ z)) (by lia) h2
   lia
  ·have:=z8e (m:=m) l (x+1) (q1B.mp hp).2 fun y hy=>⟨low y hy,(h y (q0f _ hy)).2⟩
   lia
theorem Rk.Rws.lt {m:Nat}{us:List (List Int)} (h:Rws m us) {y:List Int} (h0:∀t∈us,v y (fp t)=0) {j:Nat} (hj:j<m) (hn:v y j≠0):us.length+1≤m:=by
 have:=z9b (m:=m) (j:=j) (us.map fp) 0 (by rw[q1e];exact h.up) (fun x hx=>by
  obtain⟨t,ht,rfl⟩:=q0g.mp hx
  exact⟨q0S _,(h.row t ht).2.1⟩) (fun hx=>by
  obtain⟨t,ht,e⟩:=q0g.mp hx
  exact hn (by rw[←e];exact h0 t ht)) (q0S _) hj
 rw[q0a] at this
 lia
theorem z5e {rs:List Int}{k:Nat} (h:∃n∈rs,n≠0) (hb:∀n∈rs,intBits n≤k):∀n∈z0n rs,intBits n≤k:=fun n hn=>by
 unfold z0n at hn
 obtain⟨x,hx,rfl⟩:=q0g.mp hn
 exact intBits_le_of_natAbs (z1Z (z2D hx) (z2Q h)) (hb x hx)
theorem y3d {α β:Type}{g:α→β}{l2:List α}{l:List β} (h:l.Perm (l2.map g)):∃l':List α,l'.Perm l2∧l=l'.map g:=by
 have base:∀l2:List α,Paired (fun a b=>b=g a) l2 (l2.map g):=fun l2=>by
  induction l2 with
  |nil=>exact .nil
  |cons a l ih=>exact .cons rfl ih
 obtain⟨l',h1,h2⟩:=z4r h (base l2)
 refine⟨l',h1,?_⟩
 clear h h1 base
 induction h2 with
 |nil=>rfl
 |cons e _ ih=>rw[List.map_cons,e,ih]
theorem y5T {H:Hp}{as:List Addr}{ts:List (List Int)} (h:TsA H as ts) {c:List Int×Addr} (hc:c∈ts.zip as):H c.2=some (.tup (c.1.map V.int)):=by
 obtain⟨i,hi,e⟩:=q0I.mp hc
 rw[q0Q] at hi
 rw[List.getElem_zip] at e
 have e1:ts[i]=c.1:=congrArg Prod.fst e
 have e2:as[i]'(by lia)=c.2:=congrArg Prod.snd e
 exact h.2 i c.2 c.1 (by rw[q0c (by lia),e2]) (by rw[q0c (by lia),e1])
theorem ts_of {H:Hp}{zs:List (List Int×Addr)} (h:∀c∈zs,H c.2=some (.tup (c.1.map V.int))):TsA H (zs.map Prod.snd) (zs.map Prod.fst):=by
 refine⟨by rw[q0a,q0a],fun i a t e1 e2=>?_⟩
 rw[q0h] at e1 e2
 obtain⟨c,hc,rfl⟩:=q0v.mp e1
 rw[hc] at e2
 cases e2
 exact h c (q0E hc)
theorem y2f {H1 H':Hp}{r:List Int}{as:List Addr}{ts:List (List Int)}{us:List V} (h:TsA H1 as ts) (e:Each (fun x u=>∃(a:Addr) (t:List Int) (p:Addr),x=V.ref a∧u=V.ref p∧H1 a=some (.tup (t.map V.int))∧H' p=some (.tup ((z1T r t).map V.int))) (as.map V.ref) us):∃as',us=as'.map V.ref∧TsA H' as' (ts.map (z1T r)):=by
 induction us generalizing as ts with
 |nil=>
  have:=e.length
  rw[q0a] at this
  have h0:as=[]:=q0V.mp this
  subst h0
  have h1:ts=[]:=q0V.mp (by rw[←h.1];rfl)
  subst h1
  exact⟨[],rfl,TsA.nil⟩
 |cons u us ih=>
  cases as with
  |nil=>cases e
  |cons a as=>
   cases ts with
   |nil=>have:=h.1;simp at this
   |cons t ts=>
    cases e with
    |cons e1 e2=>
     obtain⟨b,t',p,hb,rfl,h1,h2⟩:=e1
     cases hb
     have ht:=h.2 0 a t rfl rfl
     rw[ht] at h1
     have et:t=t':=by
      have z:t.map V.int=t'.map V.int:=by injection h1 with z;injection z
      exact List.map_inj_right (fun x y h=>by injection h) |>.mp z
     subst et
     obtain⟨as',rfl,hh⟩:=ih ⟨by simpa using h.1,fun i b u e1 e2=>h.2 (i+1) b u (by simpa using e1) (by simpa using e2)⟩ e2
     refine⟨p::as',rfl,by simp[hh.1],fun i b u e1 e2=>?_⟩
     cases i with
     |zero=>cases e1;cases e2;exact h2
     |succ i=>exact hh.2 i b u (by simpa using e1) (by simpa using e2)
abbrev z5P:Stmt:=top 23
theorem sc_joined:z0q ["rows","numbers","rest","added","kept"] ["rows","numbers"] (z0i z5P):=⟨rfl,rfl,rfl,by decide+kernel,rfl,by decide+kernel,by decide+kernel⟩
theorem y1A (T:Txt mg) (F:Fun K "joined" "joined" z5P f fd) (c_rest_by:Cal P w K mg base 4 "rest_by" ["rows","numbers"] (y0w K)) (c_wall:Cal P w K mg base 4 "wall" ["numbers"] (z8w K)) (c_cleared:Cal P w K mg base 4 "cleared" ["numbers","row"] (z3Z K)) (c_first_place:Cal P w K mg base 2 "first_place" ["row"] (z2v K)):FnOk P w K mg base CX0 5 f fd ["rows","numbers"] (z8z K):=by
 refine F.ok sc_joined (fun vs H Q E h=>?_) (fun cdv A outer s H vs Q E hr h=>?_)
 ·obtain⟨_,_,_,_,_,_,_,rfl,_⟩:=h;rfl
 obtain⟨l,p,bs,us,xs,m,B,rfl,hl,htu,hp,hlx,m4,hB,zx,hR,zb,q1,q2⟩:=h
 refine⟨_,(z0b (z0p (i:=2) sc_joined.nd rfl (Or.inl rfl) (z0m c_rest_by hr rfl (z0a (pv 0) (z0a (pv 1) z0c))))
  (z0b (z0J (z0W (z0x (z1S (K:=K) rfl rfl) rfl T.any boot_any (z0a (z0Y (z7D (K:=K) rfl) (pv 2) z1t (z1f (z1E z1c z0g))) z0c))) (z0b (z0p (i:=3) sc_joined.nd rfl (Or.inr rfl) (z0m c_wall hr rfl (z0a (pv 2) z0c)))
  (z0b (z3u (jj:=4) rfl sc_joined.nd rfl (Or.inl rfl) (Or.inl rfl) (Nc:=["row","added"]) (fr:=[none,some 3]) rfl (z0D (K:=K) rfl (pv 0)) rfl (by decide) rfl (by decide) rfl ⟨rfl,trivial⟩ ⟨⟨rfl,rfl,rfl,rfl⟩,trivial⟩ (fun _ _ _ _=>(z0k (i:=0) (show List.Nodup (["row","added"]:List Str) from by decide) rfl (Or.inl rfl))) (fun _ _ _ _=>z0K) (fun _ _ _ _=>(z0m c_wall hr rfl (z0a (z0m c_cleared hr rfl (z0a (pv 0) (z0a (pv 1) z0c))) z0c))))
  (z0e (z0o (y3e c_first_place hr rfl T.sorted rfl (z0v z4t (pv 4) (z0O (z0a (pv 3) z0c)))))))) z0y)
  (z0b (z0J (z0A z7S (z0G (z0B (K:=K) rfl) (pv 2) (z1E z1c z0g) (fun _ _=>rfl)) z0g (z0F _)) (z0e (z0o (z1i (z2J (K:=K) rfl) rfl T.list boot_list (z0a (pv 0) z0c)))) z0y)
  (z0e (z0o z3C))))),?_⟩
 have ul:=hR.len
 have b4:bnJ B us.length≤5394:=bnJ4 hB (by lia)
 obtain⟨rl,rz,_⟩:=hR.rest hlx
 refine⟨_,rfl,_,rfl,l,p,bs,us,xs,B,bnJ B us.length,rfl,hl,htu,.inr (SqT.of hp),by lia,by lia,fun t ht=>⟨by rw[(hR.row t ht).1,hlx],hR.nz ht,zb t ht⟩,zx,by lia,fun i hi=>?_,fun r H1 zr lr g1 er=>?_⟩
 ·have:i*(bnJ B us.length+1)≤3*(bnJ B us.length+1):=Nat.mul_le_mul_right _ (by lia)
  lia
 have hoff:=hR.off_all hlx
 have hsame:=hR.same hlx
 have hmore:=fun us'=>hR.more (us':=us') hlx
 generalize us.foldl z0r xs=rs at*
 obtain⟨ns,last,ers⟩:=z6z (rs:=rs) (by lia)
 have nl:ns.length=m:=by rw[ers,q0n] at rl;simpa using rl
 have vns:∀j,j<m→v rs j=v ns j:=fun j hj=>by
  show rs.getD j 0=ns.getD j 0
  rw[ers,q0b,q0b,q0L (by lia)]
 have vl:v rs m=last:=by
  show rs.getD m 0=last
  rw[ers,q0b,q0D (by lia),nl,q1n];rfl
 have er':H1 r=some (.lst ((ns++[last]).map V.int)):=by rw[←ers];exact er
 refine⟨_,rfl,_,rfl,_,rfl,z7C (b:=true) (xs:=ns.map V.int) (v:= .int last) (by have z:=er';rw[q0x] at z;exact SqL.of z) fun q0 H2 g2 hq0=>?_⟩
 refine⟨q0,_,rfl,hq0,z1G ns,_,rfl,?_⟩
 have g12:=g1.trans g2
 by_cases hnz:∃n∈ns,n≠0
 ·rw[(z1w ns).mpr hnz]
  refine z4N ?_
  have hnz2:∃n∈rs,n≠0:=let ⟨n,h1,h2⟩:=hnz;⟨n,by rw[ers];exact q0B _ h1,h2⟩
  obtain⟨j,hj,hjn⟩:∃j,j<m∧v rs j≠0:=by
   obtain⟨n,h1,h2⟩:=hnz
   obtain⟨j,hj,e⟩:=q0I.mp h1
   refine⟨j,by lia,?_⟩
   rw[vns j (by lia)]
   show ns.getD j 0≠0
   rw[q0b,q0c hj,e];exact h2
  have u3:=hR.lt rz hj hjn
  have u3':us.length≤3:=by lia
  have bb:bnJ B us.length≤1315:=bnJ3 hB u3'
  have bm:us.length*(bnJ B us.length+1)≤3*(bnJ B us.length+1):=Nat.mul_le_mul_right _ u3'
  have zr3:∀n∈rs,intBits n≤B+us.length*(bnJ B us.length+1):=zr
  refine⟨_,rfl,r,ns,last,rfl,.inl (SqL.of (g2 _ _ er')),by rw[←ers];lia,fun n hn=>q0p (zr3 n (by rw[ers];exact hn)) (by lia),hnz,fun t H3 g3 et=>?_⟩
  rw[←ers] at et
  have za:=z5e hnz2 zr3
  have na:=z5R hnz2
  have la:(z0n rs).length =m+1:=by rw[Rk.plain_len,rl]
  have hmr:=fun us' hp hs=>hmore us' ⟨j,hj,hjn⟩ hp hs
  have zra:∀u∈us,v (z0n rs) (fp u)=0:=fun u hu=>(z2b hnz2 _).mpr (rz u hu)
  have afp:fp (z0n rs)<m:=by
   rw[z6j hnz2]
   exact q0l fun hc=>hjn (z1g (by lia))
  have g123:=g12.trans g3
  have hl3:=g123 _ _ hl
  refine⟨_,rfl,l,rfl,⟨_,SqL.of hl3⟩,fun D hD=>?_⟩
  refine z7i rfl (z0z K l (bs.map V.ref)) hD (fun _=>true) (fun H' x u=>∃(a:Addr) (t':List Int) (q':Addr),x=V.ref a∧u=V.ref q'∧H3 a=some (.tup (t'.map V.int))∧H' q'=some (.tup ((z1T (z0n rs) t').map V.int))) ?_ (fun H' g'=>SqL.of (g' _ _ hl3)) (z0j (by rw[q0a,htu.1];lia)) ?_ ?_ ?_
  ·rintro H4 H5 x u k ⟨acc,hd⟩ ⟨a,t',q',e1,e2,e3,e4⟩
   exact⟨a,t',q',e1,e2,e3,k _ _ (fun z=>by rw[z,hd] at e4;cases e4) e4⟩
  ·intro x hx Hc gc S h
   exact h _ (Same.refl _)
  ·intro x hx _ Hc gc S h
   obtain⟨a,ha,rfl⟩:=q0g.mp hx
   obtain⟨i,hi,rfl⟩:=q0I.mp ha
   have hi2:i<us.length:=by rw[←htu.1];exact hi
   have hc:=g123 _ _ (htu.2 i _ _ (q0c hi) (q0c hi2))
   have htm:us[i]∈us:=q0A hi2
   generalize us[i]=t' at hc htm
   obtain⟨y1,y2,y3⟩:=hR.row t' htm
   have kn:v (z0r t' (z0n rs)) (fp t')≠0:=by
     rw[z1Q (by rw[y1,la]),zra t' htm,q0M,Int.sub_zero]
     exact q0X (z5j na) (z2d (hR.nz htm))
   have cl:(z0r t' (z0n rs)).length =m+1:=by rw[z1q (by rw[y1,la]),y1]
   refine⟨_,rfl,_,rfl,_,t,t',z0n rs,bnJ B us.length,B+us.length*(bnJ B us.length+1),rfl,.inr (SqT.of (gc _ _ hc)),.inr (SqT.of (gc _ _ et)),by rw[y1,la],by lia,zb t' htm,za,by lia,by lia,na,fun l2 H4 z4 g4 e4=>?_⟩
   obtain⟨ns2,last2,ec⟩:=z6z (rs:=z0r t' (z0n rs)) (by lia)
   have n2l:ns2.length=m:=by rw[ec,q0n] at cl;simpa using cl
   have nz2:∃n∈ns2,n≠0:=by
     refine z1Y (j:=fp t') fun z=>kn ?_
     show (z0r t' (z0n rs)).getD (fp t') 0=0
     rw[ec,q0b,q0L (by lia),←q0b]
     exact z
   refine⟨l2,ns2,last2,rfl,.inl (SqL.of (by rw[←ec];exact e4)),by rw[←ec];lia,fun n hn=>q0p (z4 n (by rw[ec];exact hn)) (by lia),nz2,fun t2 H5 g5 e5=>?_⟩
   rw[←ec] at e5
   exact h _ _ (g4.trans g5) ⟨_,t',t2,rfl,rfl,hc,e5⟩
  ·intro ks H4 g4 hD4 he
   rw[z0C] at he
   obtain⟨as',rfl,hts'⟩:=y2f (htu.same g123) he
   have gg4:=g123.trans g4
   refine⟨_,rfl,_,rfl,z0j (by show 1≤_;decide),fun r5 hr5=>?_⟩
   have g5:=z0f hr5 (.lst [V.ref t])
   have e5:upd H4 r5 (.lst [V.ref t]) r5=some (.lst [V.ref t]):=z0d
   generalize upd H4 r5 (.lst [V.ref t])=H5 at*
   refine⟨D,r5,_,_,rfl,rfl,g5 _ _ hD4,e5,z0j (by rw[q0a,hts'.1,q0a];show us.length+1≤16777216;lia),fun r6 hr6=>?_⟩
   have g6:=z0f hr6 (.lst (as'.map V.ref++[V.ref t]))
   have e6:upd H5 r6 (.lst (as'.map V.ref++[V.ref t])) r6=some (.lst ((as'++[t]).map V.ref)):=by rw[z0d,q0x];rfl
   generalize upd H5 r6 (.lst (as'.map V.ref++[V.ref t]))=H6 at*
   have tsA:TsA H6 (as'++[t]) (us.map (z1T (z0n rs))++[z0n rs]):=(hts'.same (g5.trans g6)).snoc ((g4.trans (g5.trans g6)) _ _ et)
   have g46:=g5.trans g6
   generalize hw:us.map (z1T (z0n rs))++[z0n rs]=ws at*
   have wl:ws.length=us.length+1:=by rw[←hw,q0n,q0a];rfl
   have wz:∀u∈ws,(∃n∈u,n≠0)∧u.length=m+1∧∀n∈u,intBits n≤bnJ B (us.length+1):=fun u hu=>by
     rw[←hw] at hu
     rcases q0H.mp hu with hu|hu
     ·obtain⟨t',ht',rfl⟩:=q0g.mp hu
      obtain⟨y1,y2,y3⟩:=hR.row t' ht'
      have kn:v (z0r t' (z0n rs)) (fp t')≠0:=by
         rw[z1Q (by rw[y1,la]),zra t' ht',q0M,Int.sub_zero]
         exact q0X (z5j na) (z2d (hR.nz ht'))
      refine⟨z5R (z1Y kn),?_,?_⟩
      ·unfold z1T;rw[Rk.plain_len,z1q (by rw[y1,la]),y1]
      ·exact z5e (z1Y kn) fun n hn=>q0p (z5r (by rw[y1,la]) na (zb t' ht') za n hn) (by show _≤bnJ B us.length+(B+us.length*(bnJ B us.length+1))+1;lia)
     ·rw[q0m.mp hu]
      exact⟨na,la,fun n hn=>q0p (za n hn) (by show _≤bnJ B us.length+(B+us.length*(bnJ B us.length+1))+1;lia)⟩
   refine⟨r6,_,ws.map (fun u=>((fp u:Nat):Int)),rfl,e6,by rw[q0a,q0a,tsA.1],by rw[q0a,tsA.1,wl];lia,fun i x n hx hn Hk gk=>?_,fun D7 qs H7 hn7 g7 hp7 hw7 e7=>?_⟩
   ·rw[q0h] at hx hn
    obtain⟨a,ha,rfl⟩:=q0v.mp hx
    obtain⟨u,hu,rfl⟩:=q0v.mp hn
    obtain⟨w1,w2,_⟩:=wz u (q0E hu)
    exact⟨a,u,rfl,.inr (SqT.of (gk _ _ (tsA.2 i a u ha hu))),by lia,w1,fun H' g'=>⟨rfl,g'⟩⟩
   ·have ez:(ws.map fun u=>((fp u:Nat):Int)).zip ((as'++[t]).map V.ref)=(ws.zip (as'++[t])).map fun c=>(((fp c.1:Nat):Int),V.ref c.2):=by rw[List.zip_map];rfl
    rw[ez] at hp7
    obtain⟨zs,z1,rfl⟩:=y3d hp7
    have g67:=g46.trans g7
    have p1:(zs.map Prod.fst).Perm ws:=by
     have:=z1.map Prod.fst
     rw[List.map_fst_zip (by rw[tsA.1];exact q0j _)] at this
     exact this
    have o1:(zs.map Prod.fst).Pairwise fun a b=>fp a≤fp b:=by
     rw[q1e] at hw7 ⊢
     exact hw7.imp fun h=>by dsimp only at h;lia
    obtain⟨m1,m2,m3⟩:=hmr _ p1 o1
    refine q1 D7 (zs.map Prod.snd) (zs.map Prod.fst) H7 (((gg4.trans g46)).free hn7) (gg4.trans g67) ?_ (ts_of fun c hc=>g7 _ _ (y5T tsA (z1.mem_iff.mp hc))) m1 ?_ m2
    ·rw[e7,q0C,q0C];rfl
    ·intro u hu n hn
     rw[q0a] at m3
     rw[q0a,m3]
     exact (wz u (p1.mem_iff.mp hu)).2.2 n hn
 ·have h0:(ns.map V.int).any trV=false:=by
   cases z:(ns.map V.int).any trV with
   |false=>rfl
   |true=>exact absurd ((z1w ns).mp z) hnz
  rw[h0]
  refine z1I ?_
  have z0:∀j,j<m→v rs j=0:=fun j hj=>by
   rw[vns j hj]
   refine q0l fun hc=>hnz (z1Y hc)
  refine⟨_,rfl,_,rfl,_,_,_,_,rfl,rfl,SqL.of (g2 _ _ er'),by rw[q0x];exact z2K _ _,rfl,_,rfl,?_⟩
  refine z3i (fun c=>?_) (fun c=>?_)
  ·have hz:last=0:=by simpa using c
   refine⟨_,rfl,l,_,rfl,.inl (SqL.of (g12 _ _ hl)),fun r3 hr3=>?_⟩
   refine q1 r3 bs us _ (g12.free hr3) (g12.trans (z0f hr3 _)) z0d (htu.same (g12.trans (z0f hr3 _))) hR zb ?_
   refine hsame fun j=>?_
   by_cases hj:j<m
   ·exact z0 j hj
   ·by_cases hj2:j=m
    ·rw[hj2,vl,hz]
    ·show rs.getD j 0=0
     rw[q0b,q1C (by lia)];rfl
  ·have hz:last≠0:=fun z=>c (by simp[z])
   exact q2 _ g12 ⟨v rs,hoff,z0,by rw[vl];exact hz⟩
end
end L2
namespace L2
open PySem PySem.Spec PyProof.Rows
section
open Fr Wl Rk Pt
open Builtin.Int (intBits)
variable {P:Program}{w:World}{K:PySem.W.Frag}{mg:Str→Option Value}{base:Heap}{f:Addr}{fd:FuncData}
structure z9l where
 l:Addr
 bs:List Addr
 us:List (List Int)
 s:Int
def LotAt (H:Hp) (d:z9l) (x:V):Prop:=∃p,x= .ref p∧H p=some (.tup [.ref d.l,.int d.s])∧H d.l=some (.lst (d.bs.map V.ref))∧TsA H d.bs d.us
theorem LotAt.same {H H':Hp}{d:z9l}{x:V} (h:LotAt H d x) (g:Same H H'):LotAt H' d x:=by
 obtain⟨p,e,h1,h2,h3⟩:=h
 exact⟨p,e,g _ _ h1,g _ _ h2,h3.same g⟩
def cfD (m:Nat) (ds:List z9l) (k:Nat):Int:=z2s (fun d=>if d.us.length+k=m then d.s else 0) ds
theorem z3U {α:Type} (f:α→Int):∀(a b:List α),z2s f (a++b)=z2s f a+z2s f b
 |[],b=>by show _=0+_;rw[Int.zero_add];rfl
 |x::a,b=>by rw[List.cons_append,z2s,z2s,z3U f a b];lia
theorem y5G {m j:Nat}{ds:List z9l}{d:z9l} (hj:d.us.length+j=m):((List.range (m+1)).map (cfD m ds)).set j (cfD m ds j+d.s)=(List.range (m+1)).map (cfD m (ds++[d])):=by
 refine List.ext_getElem (by simp) fun i h1 h2=>?_
 have e:cfD m (ds++[d]) i=cfD m ds i+if d.us.length+i=m then d.s else 0:=by
  unfold cfD
  rw[z3U]
  show _+(_+0)=_
  rw[q1k]
 rw[List.getElem_set,List.getElem_map,List.getElem_map,List.getElem_range,e]
 by_cases c:j=i
 ·subst c
  rw[if_pos rfl,if_pos hj]
 ·rw[if_neg c,if_neg (by lia),q1k]
theorem y0m (m:Nat):(List.replicate m [V.int 0]).flatten =(List.replicate m (0:Int)).map V.int:=by
 induction m with
 |zero=>rfl
 |succ m ih=>rw[List.replicate_succ,List.flatten_cons,ih,List.replicate_succ];rfl
theorem y5H (m:Nat):List.replicate (m+1) (0:Int)=(List.range (m+1)).map (cfD m []):=by
 refine List.ext_getElem (by simp) fun i h1 h2=>?_
 rw[List.getElem_map,List.getElem_replicate];rfl
abbrev z4l:Stmt:=top 45
theorem sc_counted:z0q ["ways","parts","polynomial","rows","sign","power"] ["ways","parts"] (z0i z4l):=⟨rfl,rfl,rfl,by decide+kernel,rfl,by decide+kernel,by decide+kernel⟩
def z6D (K:PySem.W.Frag):Sp:=fun vs H Q _=>∃(m:Nat) (l:Addr) (xs:List V) (ds:List z9l),vs=[.int (m:Nat),.ref l]∧H l=some (.lst xs)∧Each (LotAt H) ds xs∧(∀d∈ds,d.us.length≤m)∧m≤100∧ds.length≤10000∧
 ∀(r:Addr) (H':Hp),H r=none→Same H H'→H' r=some (.lst (((List.range (m+1)).map (cfD m ds)).map V.int))→Q (.ref r) H'
theorem z9K (T:Txt mg) (F:Fun K "counted" "counted" z4l f fd):FnOk P w K mg base CX0 1 f fd ["ways","parts"] (z6D K):=by
 refine F.ok sc_counted (fun vs H Q E h=>?_) (fun cdv A outer s H vs Q E hr h=>?_)
 ·obtain⟨_,_,_,_,rfl,_⟩:=h;rfl
 obtain⟨m,l,xs,ds,rfl,hl,hE,hm,m100,d10,q⟩:=h
 refine⟨_,(z0b (z0p (i:=2) sc_counted.nd rfl (Or.inl rfl) (z0v z6L (z0O (z0a z0g z0c)) (z0v z1s (pv 0) z0g)))
  (z0b (z0T PassesOwn.never rfl (z0D (K:=K) rfl (pv 1)) (z0S (K:=K) rfl 2 rfl (z0u (z0k (i:=3) sc_counted.nd rfl (Or.inl rfl)) (z0u (z0k (i:=4) sc_counted.nd rfl (Or.inl rfl)) z0R))) (z0b (z0p (i:=5) sc_counted.nd rfl (Or.inl rfl) (z0v z2p (pv 0) (z0x (z0M (K:=K) rfl) rfl T.len PySem.boot_len (z0a (pv 3) z0c))))
  (z0e (y1e (z0v z1s (z0G (z0B (K:=K) rfl) (pv 2) (pv 5) (fun _ _=>rfl)) (pv 4)) (y1h (pv 2) (pv 5) z5G)))))
  (z0e (z0o (pv 2))))),?_⟩
 refine z0w (fun σ H'=>∃r,H r=none∧σ=[some (.int (m:Nat)),some (.ref l),some (.ref r),none,none,none]∧Same H H'∧H' r=some (.lst (((List.range (m+1)).map (cfD m [])).map V.int))) (fun N hN=>?_) ?_
 ·refine⟨z0j (by show 1≤_;decide),fun z hz=>?_⟩
  have g0:=z0f hz (.lst [V.int 0])
  have e0:upd H z (.lst [V.int 0]) z=some (.lst [V.int 0]):=z0d
  generalize upd H z (.lst [V.int 0])=H0 at*
  refine⟨_,rfl,_,_,rfl,rfl,z,_,_,rfl,rfl,e0,by lia,by lia,z0j (by show 1*((m:Int)+1).toNat ≤_;lia),fun z1 hz1=>?_⟩
  have et:((m:Int)+1).toNat =m+1:=by lia
  rw[et,y0m,y5H]
  exact hN _ _ ⟨z1,g0.free hz1,rfl,g0.trans (z0f hz1 _),z0d⟩
 rintro σ0 H0 ⟨r,hr0,rfl,g0,e0⟩
 refine z0w (fun σ H'=>∃s3 s4 s5,σ=[some (.int (m:Nat)),some (.ref l),some (.ref r),s3,s4,s5]∧Same H H'∧H' r=some (.lst (((List.range (m+1)).map (cfD m ds)).map V.int))) (fun N hN=>?_) ?_
 ·refine⟨_,rfl,l,rfl,⟨_,SqL.of (g0 _ _ hl)⟩,?_⟩
  refine z0E (z0z K l xs) (fun i σ H'=>∃s3 s4 s5,σ=[some (.int (m:Nat)),some (.ref l),some (.ref r),s3,s4,s5]∧Same H H'∧H' r=some (.lst (((List.range (m+1)).map (cfD m (ds.take i))).map V.int))) ⟨_,_,_,rfl,g0,e0⟩ (fun i σ H' _ h=>by obtain⟨_,_,_,_,g,_⟩:=h;exact SqL.of (g _ _ hl)) ?_ ?_
  ·rintro i x σ H1 H2 hi ⟨s3,s4,s5,rfl,g,er⟩ ⟨rfl,hx⟩
   have hid:i<ds.length:=by rw[hE.length];exact hi
   have hdi:ds[i]? =some ds[i]:=q0c hid
   have hdm:ds[i]∈ds:=q0A hid
   have tk:ds.take (i+1)=ds.take i++[ds[i]]:=by rw[q0R,hdi];rfl
   generalize ds[i]=d at hdi hdm tk
   obtain⟨p,rfl,h1,h2,h3⟩:=(hE.get hdi hx).same g
   have hdl:=hm d hdm
   obtain⟨j,hj⟩:∃j,d.us.length+j=m:=⟨m - d.us.length,by lia⟩
   refine⟨p,_,rfl,SqT.of h1,rfl,_,_,rfl,_,_,rfl,rfl,?_⟩
   refine⟨_,rfl,_,rfl,d.l,_,rfl,.inl (SqL.of h2),_,_,rfl,rfl,?_⟩
   have ej:((m:Nat):Int) - (((d.bs.map V.ref).length :Nat):Int)=((j:Nat):Int):=by rw[q0a,h3.1];lia
   dsimp only
   rw[ej]
   have hat:atI (((List.range (m+1)).map (cfD m (ds.take i))).map V.int) ((j:Nat):Int)=some (.int (cfD m (ds.take i) j)):=z2E (by rw[q0h,q0h,List.getElem?_range (by lia)];rfl)
   refine⟨_,rfl,_,rfl,r,_,_,_,rfl,rfl,SqL.of er,hat,_,rfl,_,_,rfl,rfl,?_⟩
   refine⟨_,rfl,_,rfl,r,_,_,j,rfl,rfl,er,z8d (by simp;lia),?_⟩
   refine⟨_,_,_,rfl,fun b o e=>by rw[z0l (z0h e hr0)];exact g _ _ e,?_⟩
   rw[z0d,tk,←y5G hj,List.map_set]
  ·rintro σ H1 ⟨s3,s4,s5,rfl,g,er⟩
   rw[←hE.length,q0T] at er
   exact hN _ _ ⟨_,_,_,rfl,g,er⟩
 rintro σ1 H1 ⟨s3,s4,s5,rfl,g1,e1⟩
 exact⟨_,rfl,q r H1 hr0 g1 e1⟩
end
end L2
namespace L2
open PySem PySem.Spec PyProof.Rows
section
open Fr Wl Rk Pt
open Builtin.Int (intBits)
variable {P:Program}{w:World}{K:PySem.W.Frag}{mg:Str→Option Value}{base:Heap}{f:Addr}{fd:FuncData}
theorem y0b {α β γ:Type}{R:α→γ→Prop}{S:γ→β→Prop}{as:List α}{bs:List β} (h:Each (fun a b=>∃c,R a c∧S c b) as bs):∃cs,Each R as cs∧Each S cs bs:=by
 induction h with
 |nil=>exact⟨[],.nil,.nil⟩
 |cons h1 _ ih=>
  obtain⟨c,a,b⟩:=h1
  obtain⟨cs,x,y⟩:=ih
  exact⟨c::cs,.cons a x,.cons b y⟩
theorem Each.app {α β:Type}{R:α→β→Prop}{as as':List α}{bs bs':List β} (h:Each R as bs) (h':Each R as' bs'):Each R (as++as') (bs++bs'):=by
 induction h with
 |nil=>exact h'
 |cons h1 _ ih=>exact .cons h1 ih
theorem Each.mapL {α β γ:Type}{R:γ→β→Prop}{f:α→γ}{as:List α}{bs:List β} (h:Each (fun a b=>R (f a) b) as bs):Each R (as.map f) bs:=by
 induction h with
 |nil=>exact .nil
 |cons h1 _ ih=>exact .cons h1 ih
theorem Each.all {α β:Type}{R:α→β→Prop}{as:List α}{bs:List β} (h:Each R as bs) {b:β} (hb:b∈bs):∃a∈as,R a b:=by
 induction h with
 |nil=>cases hb
 |cons h1 _ ih=>
  rcases q0r.mp hb with rfl|hb
  ·exact⟨_,q0k,h1⟩
  ·obtain⟨a,ha,r⟩:=ih hb
   exact⟨a,q0f _ ha,r⟩
def MoreAt (H:Hp) (e:z9l×Bool) (x:V):Prop:=if e.2 then LotAt H e.1 x else ∃p,x= .ref p∧H p=some (.tup [.non,.int e.1.s])
theorem MoreAt.same {H H':Hp}{e:z9l×Bool}{x:V} (h:MoreAt H e x) (g:Same H H'):MoreAt H' e x:=by
 obtain⟨d,b⟩:=e
 cases b with
 |true=>exact LotAt.same (d:=d) h g
 |false=>obtain⟨p,e1,h1⟩:=h;exact⟨p,e1,g _ _ h1⟩
structure y3T (m B:Nat) (d:z9l):Prop where
 rws:Rws m d.us
 bits:∀t∈d.us,∀n∈t,intBits n≤bnJ B d.us.length
structure y5N (m B:Nat) (w:List Int) (d:z9l) (e:z9l×Bool):Prop where
 sg:e.1.s=0 - d.s
 yes:e.2=true→y3T m B e.1∧In (e.1.us.map v)=In ((w::d.us).map v)
 no:e.2=false→z8O m (w::d.us)
theorem y2K {m B:Nat}{w:List Int} (ws:List (List Int)) (k:Nat) {ds:List z9l}{es:List (z9l×Bool)} (h:Each (y5N m B w) ds es):
 z2s (fun d=>d.s*pS m d.us ws k) (ds++(es.filter (·.2)).map Prod.fst)=z2s (fun d=>d.s*pS m d.us (w::ws) k) ds:=by
 rw[z3U]
 induction h with
 |nil=>rfl
 | @cons d e ds es h1 _ ih=>
   obtain⟨a,b,c⟩:=h1
   rw[z2s,z2s,←ih,pS]
   cases hb:e.2 with
   |true=>
    obtain⟨b1,b2⟩:=b hb
    rw[q1f (by simpa using hb),q0u,z2s,z2V ws b2,a]
    grind
   |false=>
    rw[q1g (by simp[hb]),z8M ws (c hb)]
    grind
abbrev z1N:Stmt:=top 46
theorem sc_parts_of_lots:z0q ["walls","found","numbers","more"] ["walls"] (z0i z1N):=⟨rfl,rfl,rfl,by decide+kernel,rfl,by decide+kernel,by decide+kernel⟩
def z4Z (K:PySem.W.Frag):Sp:=fun vs H Q _=>∃(b:Addr) (as:List Addr) (ts:List (List Int)) (m B:Nat),vs=[.ref b]∧H b=some (.lst (as.map V.ref))∧TsA H as ts∧ts.length≤8∧m≤4∧B≤130∧(∀t∈ts,t.length=m+1∧∀n∈t,intBits n≤B)∧
 ∀(r:Addr) (xs:List V) (ds:List z9l) (H':Hp),H r=none→Same H H'→H' r=some (.lst xs)→Each (LotAt H') ds xs→ds.length≤2^ts.length→(∀d∈ds,Rws m d.us)→(∀k,z2s (fun d=>d.s*pS m d.us [] k) ds=pS m [] ts k)→Q (.ref r) H'
theorem z3I (T:Txt mg) (F:Fun K "parts_of_lots" "parts_of_lots" z1N f fd) (c_joined:Cal P w K mg base 5 "joined" ["rows","numbers"] (z8z K)):FnOk P w K mg base CX0 6 f fd ["walls"] (z4Z K):=by
 refine F.ok sc_parts_of_lots (fun vs H Q E h=>?_) (fun cdv A outer s H vs Q E hr h=>?_)
 ·obtain⟨_,_,_,_,_,rfl,_⟩:=h;rfl
 obtain⟨b,as,ts,m,B,rfl,hb,hts,t8,m4,hB,zt,q⟩:=h
 refine⟨_,(z0b (z0p (i:=1) sc_parts_of_lots.nd rfl (Or.inl rfl) (z0O (z0a (z1P (z0a (z0O z0c) (z0a z0g z0c))) z0c)))
  (z0b (z0T PassesOwn.never rfl (z0D (K:=K) rfl (pv 0)) (z0k (i:=2) sc_parts_of_lots.nd rfl (Or.inr rfl)) (z0b (z3u (jj:=3) rfl sc_parts_of_lots.nd rfl (Or.inl rfl) (Or.inl rfl) (Nc:=["rows","sign","numbers"]) (fr:=[none,none,some 2]) rfl (z0D (K:=K) rfl (pv 1)) rfl (by decide) rfl (by decide) rfl ⟨rfl,trivial⟩ ⟨⟨rfl,rfl,rfl,rfl⟩,trivial⟩ (fun _ _ _ _=>(z0S (K:=K) rfl 2 rfl (z0u (z0k (i:=0) (show List.Nodup (["rows","sign","numbers"]:List Str) from by decide) rfl (Or.inl rfl)) (z0u (z0k (i:=1) (show List.Nodup (["rows","sign","numbers"]:List Str) from by decide) rfl (Or.inl rfl)) z0R)))) (fun _ _ _ _=>z0K) (fun _ _ _ _=>(z1P (z0a (z0m c_joined hr rfl (z0a (pv 0) (z0a (pv 2) z0c))) (z0a (z0v z2p z0g (pv 1)) z0c)))))
  (z0e (z0p (i:=1) sc_parts_of_lots.nd rfl (Or.inl rfl) (z0v z4t (pv 1) (z0L (Nc:=["rows","sign"]) (fr:=[none,none]) rfl (z0D (K:=K) rfl (pv 3)) rfl (by decide) rfl (by decide) rfl trivial trivial (fun _ _ _ _=>(z0S (K:=K) rfl 2 rfl (z0u (z0k (i:=0) (show List.Nodup (["rows","sign"]:List Str) from by decide) rfl (Or.inl rfl)) (z0u (z0k (i:=1) (show List.Nodup (["rows","sign"]:List Str) from by decide) rfl (Or.inl rfl)) z0R)))) (fun _ _ _ _=>(z3t (z3b (z5T (pv 0))))) (fun _ _ _ _=>(z1P (z0a (pv 0) (z0a (pv 1) z0c))))))))))
  (z0e (z0o (pv 1))))),?_⟩
 refine z0w (fun σ H'=>∃r xs ds,H r=none∧σ=[some (.ref b),some (.ref r),none,none]∧Same H H'∧H' r=some (.lst xs)∧Each (LotAt H') ds xs∧ds.length=1∧(∀d∈ds,y3T m B d)∧∀k,z2s (fun d=>d.s*pS m d.us ts k) ds=pS m [] ts k) (fun N hN=>?_) ?_
 ·refine⟨z0j (by show 0≤_;decide),fun z hz=>?_⟩
  have g0:=z0f hz (.lst [])
  have e0:upd H z (.lst []) z=some (.lst []):=z0d
  generalize upd H z (.lst [])=H0 at*
  refine⟨z0j (by show 2≤_;decide),fun z1 hz1=>?_⟩
  have g1:=z0f hz1 (.tup [V.ref z,V.int 1])
  have e1:upd H0 z1 (.tup [V.ref z,V.int 1]) z1=some (.tup [V.ref z,V.int 1]):=z0d
  generalize upd H0 z1 (.tup [V.ref z,V.int 1])=H1 at*
  refine⟨z0j (by show 1≤_;decide),fun z2 hz2=>?_⟩
  have g2:=z0f hz2 (.lst [V.ref z1])
  have g02:=g0.trans g1
  refine hN _ _ ⟨z2,[V.ref z1],[⟨z,[],[],1⟩],g02.free hz2,rfl,g02.trans g2,z0d,.cons ⟨z1,rfl,g2 _ _ e1,(g1.trans g2) _ _ e0,TsA.nil⟩ .nil,rfl,fun d hd=>?_,fun k=>?_⟩
  ·rw[q0m.mp hd]
   exact⟨Rws.nil,fun t ht=>by cases ht⟩
  ·show 1*pS m [] ts k+0=_
   lia
 rintro σ0 H0 ⟨r0,xs0,ds0,hr0,rfl,g0,e0,hE0,dl0,hG0,hS0⟩
 refine z0w (fun σ H'=>∃r xs ds s2 s3,H r=none∧σ=[some (.ref b),some (.ref r),s2,s3]∧Same H H'∧H' r=some (.lst xs)∧Each (LotAt H') ds xs∧ds.length≤2^ts.length∧(∀d∈ds,y3T m B d)∧∀k,z2s (fun d=>d.s*pS m d.us [] k) ds=pS m [] ts k) (fun N hN=>?_) ?_
 ·refine⟨_,rfl,b,rfl,⟨_,SqL.of (g0 _ _ hb)⟩,?_⟩
  refine z0E (z0z K b (as.map V.ref)) (fun i σ H'=>∃r xs ds s2 s3,H r=none∧σ=[some (.ref b),some (.ref r),s2,s3]∧Same H H'∧H' r=some (.lst xs)∧Each (LotAt H') ds xs∧ds.length≤2^i∧(∀d∈ds,y3T m B d)∧∀k,z2s (fun d=>d.s*pS m d.us (ts.drop i) k) ds=pS m [] ts k) ⟨r0,xs0,ds0,_,_,hr0,rfl,g0,e0,hE0,by rw[dl0];decide,hG0,hS0⟩ (fun i σ H' _ h=>by obtain⟨_,_,_,_,_,_,_,g,_⟩:=h;exact SqL.of (g _ _ hb)) ?_ ?_
  ·clear e0 hE0 dl0 hG0 hS0
   rintro i x σ H1 H2 hi ⟨r,xs,ds,s2,s3,hr1,rfl,g,er,hE,dl,hG,hS⟩ ⟨rfl,hx⟩
   rw[q0a,hts.1] at hi
   rw[q0h] at hx
   obtain⟨a,ha,rfl⟩:=q0v.mp hx
   have hti:ts[i]? =some ts[i]:=q0c hi
   have htm:ts[i]∈ts:=q0A hi
   have hdr:ts.drop i=ts[i]::ts.drop (i+1):=List.drop_eq_getElem_cons hi
   generalize ts[i]=u at hti htm hdr
   obtain⟨ul,ub⟩:=zt u htm
   have hau:=g _ _ (hts.2 i a u ha hti)
   have d8:ds.length≤256:=q0p dl (q0p (Nat.pow_le_pow_right (by decide) (show i≤8 by lia)) (by decide))
   refine⟨_,rfl,r,rfl,⟨_,SqL.of er⟩,fun D hD=>?_⟩
   refine z0X ds hE.length.symm (z0z K r xs) hD (fun d σ=>(σ.set 0 (some (.ref d.l))).set 1 (some (.int d.s))) (fun d e σ=>z1M _ _ _ _ _) (fun _=>true) (fun H' d u'=>∃e,(y5N m B u d e∧(e.2=true→e.1.l≠D))∧MoreAt H' e u') ?_ (fun H' g'=>SqL.of (g' _ _ er)) (z0j (by rw[←hE.length];lia)) ?_ ?_ ?_ ?_
   ·rintro H3 H4 d u' k ⟨acc,hd⟩ ⟨e,⟨he,hne⟩,hm⟩
    refine⟨e,⟨he,hne⟩,?_⟩
    obtain⟨e1,e2⟩:=e
    cases e2 with
    |true=>
     obtain⟨p,e3,h1,h2,h3⟩:=hm
     exact⟨p,e3,k _ _ (fun z=>by rw[z,hd] at h1;cases h1) h1,k _ _ (hne rfl) h2,h3.1,fun i a t ea et=>k _ _ (fun z=>by have:=h3.2 i a t ea et;rw[z,hd] at this;cases this) (h3.2 i a t ea et)⟩
    |false=>
     obtain⟨p,e3,h1⟩:=hm
     exact⟨p,e3,k _ _ (fun z=>by rw[z,hd] at h1;cases h1) h1⟩
   ·intro i x d hx hd σ H3 g3 S h
    obtain⟨p,rfl,h1,_⟩:=(hE.get hd hx).same g3
    exact⟨p,_,rfl,SqT.of h1,rfl,_,_,rfl,_,_,rfl,rfl,h⟩
   ·intro d hd Hc gc S h
    exact h _ (Same.refl _)
   ·rintro d hd _ Hc gc ⟨acc,hacc⟩ S h
    obtain⟨x,hx⟩:∃x,LotAt H2 d x:=by
     obtain⟨i,hi,e⟩:=q0I.mp hd
     have hi2:i<xs.length:=by rw[←hE.length];exact hi
     exact⟨xs[i],hE.get (by rw[q0c hi,e]) (q0c hi2)⟩
    obtain⟨p,rfl,h1,h2,h3⟩:=hx.same gc
    have gd:=hG d hd
    refine⟨_,rfl,_,rfl,d.l,a,d.bs,d.us,u,m,B,rfl,h2,h3,gc _ _ hau,ul,m4,hB,ub,gd.rws,gd.bits,fun r2 bs2 us2 H3 hr2 g3 er2 hts2 hR2 hb2 hI2=>?_,fun H3 g3 ho=>?_⟩
    ·refine⟨_,rfl,_,_,rfl,rfl,z0j (by show 2≤_;decide),fun z hz=>?_⟩
     have g4:=z0f hz (.tup [V.ref r2,V.int (0 - d.s)])
     exact h _ _ (g3.trans g4) ⟨(⟨r2,bs2,us2,0 - d.s⟩,true),⟨⟨rfl,fun _=>⟨⟨hR2,hb2⟩,hI2⟩,fun z=>(by cases z)⟩,fun _=>fun z=>(by rw[show r2=D from z] at hr2;rw[hr2] at hacc;cases hacc)⟩,z,rfl,z0d,g4 _ _ er2,hts2.same g4⟩
    ·refine⟨_,rfl,_,_,rfl,rfl,z0j (by show 2≤_;decide),fun z hz=>?_⟩
     have g4:=z0f hz (.tup [V.non,V.int (0 - d.s)])
     exact h _ _ (g3.trans g4) ⟨(⟨z,[],[],0 - d.s⟩,false),⟨⟨rfl,fun z=>(by cases z),fun _=>ho⟩,fun z=>(by cases z)⟩,z,rfl,z0d⟩
   ·intro us H3 g3 hD3 he
    rw[z0C] at he
    obtain⟨es,hes,hms⟩:=y0b he
    have hst:Each (y5N m B u) ds es:=hes.imp fun _ _ h=>h.1
    have el:es.length=ds.length:=hst.length.symm
    refine⟨_,rfl,_,rfl,D,rfl,⟨_,SqL.of hD3⟩,fun D2 hD2=>?_⟩
    refine z0X es hms.length.symm (z0z K D us) hD2 (fun e σ=>(σ.set 0 (some (if e.2 then .ref e.1.l else .non))).set 1 (some (.int e.1.s))) (fun d e σ=>z1M _ _ _ _ _) (fun e=>e.2) (fun H' e u'=>e.1.l≠D2∧LotAt H' e.1 u') ?_ (fun H' g'=>SqL.of (g' _ _ hD3)) (z0j (by rw[←hms.length];lia)) ?_ ?_ ?_ ?_
    ·rintro H4 H5 e u' k ⟨acc,hd⟩ ⟨hne,p,e3,h1,h2,h3⟩
     exact⟨hne,p,e3,k _ _ (fun z=>by rw[z,hd] at h1;cases h1) h1,k _ _ hne h2,h3.1,fun i a t ea et=>k _ _ (fun z=>by have:=h3.2 i a t ea et;rw[z,hd] at this;cases this) (h3.2 i a t ea et)⟩
    ·intro i x e hx he σ H4 g4 S h
     have hm:=(hms.get he hx).same g4
     obtain⟨d,eb⟩:=e
     cases eb with
     |true=>
      obtain⟨p,rfl,h1,_⟩:=hm
      exact⟨p,_,rfl,SqT.of h1,rfl,_,_,rfl,_,_,rfl,rfl,h⟩
     |false=>
      obtain⟨p,rfl,h1⟩:=hm
      exact⟨p,_,rfl,SqT.of h1,rfl,_,_,rfl,_,_,rfl,rfl,h⟩
    ·intro e he Hc gc S h
     obtain⟨d,eb⟩:=e
     cases eb with
     |true=>exact⟨_,rfl,_,rfl,h _ (Same.refl _)⟩
     |false=>exact⟨_,rfl,_,rfl,h _ (Same.refl _)⟩
    ·intro e he hb Hc gc _ S h
     obtain⟨x,hx⟩:∃x,MoreAt H3 e x:=by
         obtain⟨i,hi,e'⟩:=q0I.mp he
         have hi2:i<us.length:=by rw[←hms.length];exact hi
         exact⟨us[i],hms.get (by rw[q0c hi,e']) (q0c hi2)⟩
     obtain⟨d,eb⟩:=e
     cases eb with
     |false=>cases hb
     |true=>
      obtain⟨p,rfl,h1,h2,h3⟩:=hx
      refine⟨_,rfl,_,rfl,z0j (by show 2≤_;decide),fun z hz=>?_⟩
      have g4:=gc.trans (z0f hz (.tup [V.ref d.l,V.int d.s]))
      exact h _ _ (z0f hz _) ⟨fun z=>(by have h2':=h2;rw[show d.l=D2 from z] at h2';rw[hD2] at h2';cases h2'),z,rfl,z0d,g4 _ _ h2,h3.same g4⟩
    ·intro us2 H4 g4 hD4 he2
     have he2':Each (LotAt H4) ((es.filter (·.2)).map Prod.fst) us2:=Each.mapL (he2.imp fun _ _ h=>h.2)
     have g34:=g3.trans g4
     have ul2:us2.length≤ds.length:=by
         rw[←he2'.length,q0a]
         exact q0p (q1q _ _) (by lia)
     refine⟨r,D2,_,_,rfl,rfl,g34 _ _ er,hD4,z0j (by rw[←hE.length];lia),fun r6 hr6=>?_⟩
     have g6:=z0f hr6 (.lst (xs++us2))
     have g06:=g.trans (g34.trans g6)
     refine⟨r6,xs++us2,ds++(es.filter (·.2)).map Prod.fst,_,_,(g.trans g34).free hr6,rfl,g06,z0d,(hE.imp fun _ _ h=>h.same (g34.trans g6)).app (he2'.imp fun _ _ h=>h.same g6),?_,fun d hd=>?_,fun k=>?_⟩
     ·rw[q0n,he2'.length,Nat.pow_succ]
      lia
     ·rcases q0H.mp hd with hd|hd
      ·exact hG d hd
      ·obtain⟨e,he',rfl⟩:=q0g.mp hd
       obtain⟨h1,h2⟩:=List.mem_filter.mp he'
       obtain⟨d',_,hst'⟩:=hst.all h1
       exact (hst'.yes h2).1
     ·rw[y2K (ts.drop (i+1)) k hst,←hdr]
      exact hS k
  ·rintro σ H1 ⟨r,xs,ds,s2,s3,hr1,rfl,g,er,hE,dl,hG,hS⟩
   rw[q0a,hts.1] at dl hS
   rw[List.drop_length] at hS
   exact hN _ _ ⟨r,xs,ds,s2,s3,hr1,rfl,g,er,hE,dl,hG,hS⟩
 rintro σ1 H1 ⟨r,xs,ds,s2,s3,hr1,rfl,g,er,hE,dl,hG,hS⟩
 exact⟨_,rfl,q r xs ds H1 hr1 g er hE dl (fun d hd=>(hG d hd).rws) hS⟩
abbrev z4n:Stmt:=top 47
theorem z9t:z0q ["ways","walls"] ["ways","walls"] (z0i z4n):=⟨rfl,rfl,rfl,by decide+kernel,rfl,by decide+kernel,by decide+kernel⟩
noncomputable def y2E (m:Nat) (ts:List (List Int)):List Int:=(List.range (m+1)).map (pS m [] ts)
def z8G (K:PySem.W.Frag):Sp:=fun vs H Q _=>∃(b:Addr) (as:List Addr) (ts:List (List Int)) (m B:Nat),vs=[.int (m:Nat),.ref b]∧H b=some (.lst (as.map V.ref))∧TsA H as ts∧ts.length≤8∧m≤4∧B≤130∧(∀t∈ts,t.length=m+1∧∀n∈t,intBits n≤B)∧
 ∀(r:Addr) (H':Hp),H r=none→Same H H'→H' r=some (.lst ((y2E m ts).map V.int))→Q (.ref r) H'
theorem z9M (T:Txt mg) (F:Fun K "by_lots" "by_lots" z4n f fd) (c_counted:Cal P w K mg base 6 "counted" ["ways","parts"] (z6D K)) (c_parts_of_lots:Cal P w K mg base 6 "parts_of_lots" ["walls"] (z4Z K)):FnOk P w K mg base CX0 7 f fd ["ways","walls"] (z8G K):=by
 refine F.ok z9t (fun vs H Q E h=>?_) (fun cdv A outer s H vs Q E hr h=>?_)
 ·obtain⟨_,_,_,_,_,rfl,_⟩:=h;rfl
 obtain⟨b,as,ts,m,B,rfl,hb,hts,t8,m4,hB,zt,q⟩:=h
 refine⟨_,(z0e (z0o (z0m c_counted hr rfl (z0a (pv 0) (z0a (z0m c_parts_of_lots hr rfl (z0a (pv 1) z0c)) z0c))))),?_⟩
 refine⟨_,rfl,_,rfl,b,as,ts,m,B,rfl,hb,hts,t8,m4,hB,zt,fun r xs ds H1 hr1 g1 er hE dl hR hS=>?_⟩
 have d8:ds.length≤256:=q0p dl (q0p (Nat.pow_le_pow_right (by decide) t8) (by decide))
 refine⟨m,r,xs,ds,rfl,er,hE,fun d hd=>(hR d hd).len,by lia,by lia,fun r2 H2 hr2 g2 er2=>?_⟩
 refine q r2 H2 (g1.free hr2) (g1.trans g2) ?_
 rw[er2]
 congr 3
 unfold y2E
 refine q1w fun k _=>?_
 rw[←hS k]
 unfold cfD
 clear hS hE er2 d8 dl
 induction ds with
 |nil=>rfl
 |cons d ds ih=>
  rw[z2s,z2s,ih (fun d' h=>hR d' (q0f _ h)),pS,(hR d q0k).gS]
  congr 1
  split<;>simp
end
end L2
namespace L2
open PySem PySem.Spec PyProof.Rows
section
open Fr Wl Rk Pt Ld
open Builtin.Int (intBits)
variable {P:Program}{w:World}{K:PySem.W.Frag}{mg:Str→Option Value}{base:Heap}{f:Addr}{fd:FuncData}{C fP fT fW fY fL fO:Addr}{fdL:FuncData}
theorem y1k {X:Cx}{e:Expr}{fl:Str}{pos:Pos}{ta:TE} (hK:X.K=K) (he:PE X e ta) (hb:attributeBase e fl X.env (eval e X.env)=eval e X.env):PE X (.Attribute e fl pos) (tFld K ta fl):=by
 subst hK
 exact z2N he hb
def OutAt (H:Hp) (m:Nat) (ts:List (List Int)) (sg:List Int) (u:V):Prop:=(u= .non ∧¬PWy m (bdL ts sg))∨∃q d,u= .ref q∧H q=some (.tup (d.dropLast.map V.int))∧Wy m (bdL ts sg) d∧∀n∈d,intBits n≤12000
theorem OutAt.same {H H':Hp}{m:Nat}{ts:List (List Int)}{sg:List Int}{u:V} (h:OutAt H m ts sg u) (g:Same H H'):OutAt H' m ts sg u:=by
 rcases h with h|⟨q,d,e,h,r⟩
 ·exact .inl h
 ·exact .inr ⟨q,d,e,g _ _ h,r⟩
theorem y5B {α β:Type}{R:β→V→Prop}{g:α→β}{cs:List α}{us:List V} (h:Each (fun e u=>R (g e) u) cs us):Each R (cs.map g) us:=by
 induction h with
 |nil=>exact .nil
 |cons a _ ih=>exact .cons a ih
def LdS (H:Hp) (e:LandD×Addr×Addr) (x:V):Prop:=x= .ref e.2.1∧H e.2.1=some (.tup [.ref e.1.a,.ref e.2.2])∧H e.1.a=some (.tup (e.1.sg.map V.int))
theorem z3x {H:Hp}{m:Nat}{dd:List LandD}{xs:List V} (h:Each (LandPt H m) dd xs):∃cs:List (LandD×Addr×Addr),cs.map (·.1)=dd∧Each (LdS H) cs xs∧∀e∈cs,∃bs,H e.2.2=some (.tup (bs.map V.ref))∧TsA H bs (e.1.sp.dropLast.map fun t=>y2D t (v e.1.sp m)):=by
 induction h with
 |nil=>exact⟨[],rfl,.nil,fun e he=>by cases he⟩
 | @cons d x _ _ h1 _ ih=>
   obtain⟨p,pp,bs,e,h1,h2,h3,h4⟩:=h1
   obtain⟨cs,e1,e2,e3⟩:=ih
   refine⟨(d,p,pp)::cs,by rw[q0u,e1],.cons ⟨e,h1,h2⟩ e2,fun c hc=>?_⟩
   rcases q0r.mp hc with rfl|hc
   ·exact⟨bs,h3,h4⟩
   ·exact e3 c hc
theorem LdS.get {H:Hp}{cs:List (LandD×Addr×Addr)}{xs:List V} (h:Each (LdS H) cs xs) {e:LandD×Addr×Addr} (he:e∈cs):∃x,LdS H e x:=by
 obtain⟨i,hi,rfl⟩:=q0I.mp he
 exact⟨_,h.get (q0c hi) (q0c (show i<xs.length by rw[←h.length];exact hi))⟩
theorem z6Y {H H':Hp}{cs:List (LandD×Addr×Addr)}{xs:List V} (h:Each (LdS H) cs xs) (g:Same H H'):TsA H' (cs.map fun e=>e.1.a) (cs.map fun e=>e.1.sg):=by
 refine⟨by simp,fun i a t e1 e2=>?_⟩
 rw[q0h] at e1 e2
 obtain⟨e,he,rfl⟩:=q0v.mp e1
 rw[he] at e2
 cases e2
 have hi:i<xs.length:=by rw[←h.length];exact (q0t.mp he).1
 exact g _ _ (h.get he (q0c hi)).2.2
theorem z7g {m:Nat}{ts:List (List Int)} (h:Wls m ts):(sgN m ts ts.length).length ≤16:=q0p (z5F m ts ts.length) (Nat.pow_le_pow_right (by decide) h.n4)
def y0F (K:PySem.W.Frag) (C:Addr):Sp:=fun vs H Q _=>∃(x dx st:Addr) (m:Nat) (as:List Addr) (ts:List (List Int)),vs=[.ref x]∧HA C H x dx st m as ts∧Wls m ts∧
 ∀(r:Addr) (us:List V) (H':Hp),H r=none→Same H H'→H' r=some (.lst us)→Each (OutAt H' m ts) (sgN m ts ts.length) us→Q (.ref r) H'
theorem y3o (hl:Hl K mg C fP fT fW fY fL fO) (F:Fun K "ways_out" "Hall.ways_out" z3q f fd) (FL:FnOk P w K mg base CX0 19 fL fdL ["self"] (z5A K C)) (bL:Binds K fdL ["self"] []) (c_way_out:Cal P w K mg base 19 "way_out" ["ways","walls","signs"] (z5w K)):FnOk P w K mg base CX0 20 f fd ["self"] (y0F K C):=by
 refine F.ok y2S (fun vs H Q E h=>?_) (fun cdv A outer s H vs Q E hr h=>?_)
 ·obtain⟨_,_,_,_,_,_,rfl,_⟩:=h;rfl
 obtain⟨x,dx,st,m,as,ts,rfl,hA,hW,q⟩:=h
 refine⟨_,(z0e (z0o (z0L (Nc:=["signs","point","self"]) (fr:=[none,none,some 0]) rfl (z0D (K:=K) rfl (z2l (pv 0) hl.cl hl.mlands FL hr bL .nil z3H)) rfl (by decide) rfl (by decide) rfl ⟨rfl,trivial⟩ ⟨⟨rfl,rfl,rfl,rfl⟩,trivial⟩ (fun _ _ _ _=>(z0S (K:=K) rfl 2 rfl (z0u (z0k (i:=0) (show List.Nodup (["signs","point","self"]:List Str) from by decide) rfl (Or.inl rfl)) (z0u (z0k (i:=1) (show List.Nodup (["signs","point","self"]:List Str) from by decide) rfl (Or.inl rfl)) z0R)))) (fun _ _ _ _=>z0K) (fun _ _ _ _=>(z0m c_way_out hr rfl (z0a (y1k (K:=K) rfl (pv 2) rfl) (z0a (y1k (K:=K) rfl (pv 2) rfl) (z0a (pv 0) z0c)))))))),?_⟩
 have m3:=hW.m3
 have n4:=hW.n4
 refine⟨_,rfl,x,dx,_,rfl,hA.hx,rfl,x,dx,st,m,as,ts,rfl,hA,hW,fun r xs dd H1 hr1 g1 er hE hG hsg=>?_⟩
 have hA1:=hA.same g1
 refine⟨r,rfl,⟨_,SqL.of er⟩,fun D hD=>?_⟩
 obtain⟨cs,ecs,hcs,_⟩:=z3x hE
 have ecs2:cs.map (fun e=>e.1.sg)=sgN m ts ts.length:=by rw[←hsg,←ecs,q0C];rfl
 have hxl:xs.length≤16:=by rw[←hcs.length,←q0a (f:=fun e:LandD×Addr×Addr=>e.1.sg),ecs2];exact z7g hW
 refine z0X cs hcs.length.symm (z0z K r xs) hD (fun e σ=>(σ.set 0 (some (.ref e.1.a))).set 1 (some (.ref e.2.2))) (fun d e σ=>z1M _ _ _ _ _) (fun _=>true) (fun H' e u=>OutAt H' m ts e.1.sg u) ?_ (fun H' g'=>SqL.of (g' _ _ er)) (z0j (by lia)) ?_ ?_ ?_ ?_
 ·rintro H2 H3 e u k ⟨acc,hd⟩ h
  rcases h with h|⟨q',d,e1,e2,e3⟩
  ·exact .inl h
  ·exact .inr ⟨q',d,e1,k _ _ (fun z=>by rw[z,hd] at e2;cases e2) e2,e3⟩
 ·intro i y d hy hd σ H2 g2 S h
  obtain⟨rfl,h1,_⟩:=hcs.get hd hy
  exact⟨_,_,rfl,SqT.of (g2 _ _ h1),rfl,_,_,rfl,_,_,rfl,rfl,h⟩
 ·intro d hd Hc gc S h
  exact h _ (Same.refl _)
 ·intro d hd _ Hc gc _ S h
  have hAc:=hA1.same gc
  obtain⟨_,_,_,h2⟩:=LdS.get hcs hd
  have gd:z2Y m 3 3 ts d.1:=hG _ (by rw[←ecs];exact q0G hd)
  have gl:=gd.len
  refine⟨_,rfl,x,C,dx,_,_,rfl,hAc.hx,hl.cl,hl.nW,rfl,_,rfl,x,C,dx,_,_,rfl,hAc.hx,hl.cl,hl.nS,rfl,_,rfl,m,st,d.1.a,as,ts,d.1.sg,3,3,rfl,⟨hAc.hst,hAc.rows,hW.bds,hW.lim,by lia,by lia⟩,gc _ _ h2,by lia,⟨gl.symm,gd.sgn,d.1.sp,gd.win⟩,fun r2 d2 H2 g2 e2 hw hb=>h _ _ g2 (.inr ⟨r2,d2,rfl,e2,hw,hb⟩),fun H2 g2 hn=>h _ _ g2 (.inl ⟨rfl,hn⟩)⟩
 ·intro us H2 g2 hD2 he
  rw[z0C] at he
  have he2:=y5B (R:=OutAt H2 m ts) (g:=fun e:LandD×Addr×Addr=>e.1.sg) he
  rw[ecs2] at he2
  exact q D us H2 (g1.free hD) (g1.trans g2) hD2 he2
end
end L2
namespace L2
open PySem PySem.Spec PyProof.Rows
section
open Fr Wl Rk Pt Ld
open Builtin.Int (intBits)
variable {P:Program}{w:World}{K:PySem.W.Frag}{mg:Str→Option Value}{base:Heap}{f:Addr}{fd:FuncData}
theorem y3I {m:Nat}{t d:List Int} (hl:t.length=m+1) (hd:d.length=m+1) (h0:v d m=0):(List.zipWith (fun x y=>x*y) t.dropLast d.dropLast).sum =hg m (v t) (v d):=by
 rw[z7t m _ _ (by rw[q1a,hl];rfl) (by rw[q1a,hd];exact q0j _)]
 have dv:∀{x:List Int},x.length=m+1→∀j,j<m→v x.dropLast j=v x j:=fun {x} hx j hj=>by
  show x.dropLast.getD j 0=x.getD j 0
  rw[q0b,List.getElem?_dropLast,if_pos (by lia),q0b]
 unfold hg
 rw[h0,q0M,Int.sub_zero]
 exact sumTo_congr m fun j hj=>by rw[dv hl j hj,dv hd j hj]
theorem y5I {n m:Nat}{ts:List (List Int)} (hl:ts.length≤n) (hw:∀t∈ts,WL m t) (nd:ts.Nodup):bto n m ts=y2E m ts:=by
 refine List.ext_getElem (by rw[z2X n m ts hw];unfold y2E;rw[List.length_map,List.length_range]) fun i h1 h2=>?_
 have:=Ld.bto_pS n m ts hl hw nd i
 rw[q0b,q0c h1] at this
 have e:(y2E m ts)[i]=pS m [] ts i:=by simp[y2E]
 rw[e]
 exact this
theorem y3B {K:PySem.W.Frag}{H:Hp}{a:Addr}{ns:List Int} (h:H a=some (.lst (ns.map V.int))):IsD K H (.ref a) (.l (ns.map Dt.i)):= .l (SqL.of h) (z3O ns)
abbrev z2R:Stmt:=top 61
theorem sc_l_goes_on:z0q ["_law_shuts","_law_signs","_law_way","_law_ways","_law_one","_law_sign"] ["_law_shuts","_law_signs","_law_way","_law_ways"] (z0i z2R):=⟨rfl,rfl,rfl,by decide+kernel,rfl,by decide+kernel,by decide+kernel⟩
def z8B (K:PySem.W.Frag):Sp:=fun vs H Q _=>∃(b q r:Addr) (as:List Addr) (ts:List (List Int)) (sg d:List Int) (m:Nat),vs=[.ref b,.ref q,.ref r,.int (m:Nat)]∧H b=some (.lst (as.map V.ref))∧TsA H as ts∧H q=some (.tup (sg.map V.int))∧H r=some (.tup (d.dropLast.map V.int))∧Wy m (bdL ts sg) d∧sg.length=ts.length∧Sgn sg∧ts.length≤8∧m≤4∧(∀t∈ts,t.length=m+1∧∀n∈t,intBits n≤64)∧(∀n∈d,intBits n≤12000)∧∀H',Same H H'→Q (.bl true) H'
theorem z6N (T:Txt mg) (F:Fun K "_law_goes_on" "_law_goes_on" z2R f fd) (c_l_whole:Cal P w K mg base 1 "_law_whole" ["_law_found"] z3V):FnOk P w K mg base CX0 2 f fd ["_law_shuts","_law_signs","_law_way","_law_ways"] (z8B K):=by
 refine F.ok sc_l_goes_on (fun vs H Q E h=>?_) (fun cdv A outer s H vs Q E hr h=>?_)
 ·obtain⟨_,_,_,_,_,_,_,_,rfl,_⟩:=h;rfl
 obtain⟨b,q',r,as,ts,sg,d,m,rfl,hb,hts,hq,hrr,hW,hsl,hsg,t8,m4,zt,zd,q⟩:=h
 refine⟨_,(z0b (z0J (PW.pt (z3G (z1e (z0W (z0x z1b rfl T.isinstance boot_isinstance (z0a (pv 2) (z0a (z2m (v:= .ty "tuple") rfl T.tuple boot_tuple rfl) z0c))))) (z3G (z0A z4Q (z0x (z0M (K:=K) rfl) rfl T.len PySem.boot_len (z0a (pv 2) z0c)) (pv 3) (z0F _)) (z3a (z1e (z0W (z0x (z1S (K:=K) rfl rfl) rfl T.any boot_any (z0a (pv 2) z0c)))))))) (z0e (z0o z1r)) z0y)
  (z0b (z0J (z0A (z4s (K:=K) rfl hr.units) (z0L (Nc:=["_law_part"]) (fr:=[none]) rfl (z4p (K:=K) rfl (pv 2)) rfl (by decide) rfl (by decide) rfl trivial trivial (fun _ _ _ _=>(z0k (i:=0) (show List.Nodup (["_law_part"]:List Str) from by decide) rfl (Or.inl rfl))) (fun _ _ _ _=>(z3t (z1e (z0W (z0m c_l_whole hr rfl (z0a (pv 0) z0c)))))) (fun _ _ _ _=>(pv 0))) (z0O z0c) (z0F _)) (z0e (z0o z1r)) z0y)
  (z0b (z0T PassesOwn.never rfl (z2A (K:=K) rfl rfl T.zip (z0a (pv 0) (z0a (pv 1) z0c))) (z0S (K:=K) rfl 2 rfl (z0u (z0k (i:=4) sc_l_goes_on.nd rfl (Or.inl rfl)) (z0u (z0k (i:=5) sc_l_goes_on.nd rfl (Or.inl rfl)) z0R))) (z0e (z0J (z0A z4R (z0v z0I (z0x (z7j (K:=K) rfl rfl) rfl T.sum boot_sum (z0a (z0L (Nc:=["_law_number","_law_part"]) (fr:=[none,none]) rfl (z2A (K:=K) rfl rfl T.zip (z0a (z0Y (y4G (K:=K) rfl) (pv 4) z1t (z1f (z1E z1c z0g))) (z0a (pv 2) z0c))) rfl (by decide) rfl (by decide) rfl trivial trivial (fun _ _ _ _=>(z0S (K:=K) rfl 2 rfl (z0u (z0k (i:=0) (show List.Nodup (["_law_number","_law_part"]:List Str) from by decide) rfl (Or.inl rfl)) (z0u (z0k (i:=1) (show List.Nodup (["_law_number","_law_part"]:List Str) from by decide) rfl (Or.inl rfl)) z0R)))) (fun _ _ _ _=>z0K) (fun _ _ _ _=>(z0v z0I (pv 0) (pv 1)))) z0c)) (pv 5)) z0g (z0F _)) (z0e (z0o z1r)) z0y)))
  (z0e (z0o z1r))))),?_⟩
 have hdl:d.dropLast.length=m:=by rw[q1a,hW.1.1];rfl
 refine z0w (fun σ H'=>σ=[some (.ref b),some (.ref q'),some (.ref r),some (.int (m:Nat)),none,none]∧Same H H') (fun N hN=>?_) ?_
 ·refine⟨_,rfl,_,_,_,_,rfl,.tup hrr,rfl,_,rfl,?_⟩
  refine z1I ?_
  refine⟨_,rfl,r,_,rfl,.inr (SqT.of hrr),_,rfl,rfl,_,rfl,?_⟩
  rw[q0a,hdl]
  refine y3A rfl ?_
  refine⟨_,rfl,r,_,rfl,.inr (SqT.of hrr),fun y hy=>(by obtain⟨n,_,rfl⟩:=q0g.mp hy;trivial),_,rfl,?_⟩
  have ne:(d.dropLast.map V.int).any trV=true:=by
   obtain⟨j,hj,hjn⟩:=hW.1.2.2
   have hjd:v d.dropLast j=v d j:=by
        show d.dropLast.getD j 0=d.getD j 0
        rw[q0b,List.getElem?_dropLast,if_pos (by rw[hW.1.1];lia),q0b]
   have hm:=(z6u (t:=d.dropLast) (j:=j) (by rw[hjd];exact hjn)).2
   rw[q1c]
   refine⟨_,q0G hm,?_⟩
   rw[hjd]
   simp[trV,hjn]
  rw[ne]
  exact z1I (hN _ _ ⟨rfl,Same.refl _⟩)
 rintro σ H1 ⟨rfl,g1⟩
 refine z0w (fun σ H'=>σ=[some (.ref b),some (.ref q'),some (.ref r),some (.int (m:Nat)),none,none]∧Same H H') (fun N hN=>?_) ?_
 ·have hr1:=g1 _ _ hrr
  refine⟨_,rfl,r,rfl,⟨_,SqT.of hr1⟩,fun D hD=>?_⟩
  refine z1k rfl (z2H K r (d.dropLast.map V.int)) hD (fun _=>false) (fun u=>u) (fun H' g'=>SqT.of (g' _ _ hr1)) (z0j (by rw[q0a];lia)) ?_ ?_ ?_
  ·intro x hx _ _ S h
   obtain⟨n,_,rfl⟩:=q0g.mp hx
   exact⟨_,rfl,n,rfl,_,rfl,h⟩
  ·intro x hx hf _ _ S h
   cases hf
  have ee:((d.dropLast.map V.int).filter fun _=>false).map (fun u=>u)=([]:List Int).map V.int:=by simp
  rw[ee]
  have g4:=z0f hD (.lst (([]:List Int).map V.int))
  have e4:upd H1 D (.lst (([]:List Int).map V.int)) D=some (.lst (([]:List Int).map V.int)):=z0d
  generalize upd H1 D (.lst (([]:List Int).map V.int))=H4 at*
  refine⟨q0S _,fun e0 he0=>?_⟩
  have g5:=z0f he0 (.lst [])
  have e5:upd H4 e0 (.lst []) e0=some (.lst (([]:List Int).map V.int)):=z0d
  generalize upd H4 e0 (.lst [])=H5 at*
  refine⟨D,e0,_,_,rfl,rfl,y3B (g5 _ _ e4),y3B e5,z3f 8 _ _,_,rfl,?_⟩
  rw[(Dt.eqb_iff _ _).mpr rfl]
  exact z1I (hN _ _ ⟨rfl,g1.trans (g4.trans g5)⟩)
 clear g1
 rintro σ H1' ⟨rfl,g1⟩
 refine z0w (fun σ H'=>∃s4 s5,σ=[some (.ref b),some (.ref q'),some (.ref r),some (.int (m:Nat)),s4,s5]∧Same H H') (fun N hN=>?_) ?_
 ·refine⟨_,rfl,_,rfl,b,q',true,false,_,_,rfl,SqL.of (g1 _ _ hb),SqT.of (g1 _ _ hq),?_⟩
  refine z0E (z1x K true false b q' (as.map V.ref) (sg.map V.int)) (fun i σ H'=>∃s4 s5,σ=[some (.ref b),some (.ref q'),some (.ref r),some (.int (m:Nat)),s4,s5]∧Same H H') ⟨_,_,rfl,g1⟩ (fun i σ H' _ h=>by obtain⟨_,_,_,g⟩:=h;exact⟨SqL.of (g _ _ hb),SqT.of (g _ _ hq)⟩) ?_ ?_
  ·clear g1
   rintro i x σ H2 H3 hi ⟨s4,s5,rfl,g⟩ ⟨p,u,u2,rfl,hp,huv,rfl⟩
   rw[q0Q,q0a,q0a,hts.1] at hi
   rw[q0K,q0h,q0h] at huv
   obtain⟨a,ha,rfl⟩:=q0v.mp huv.1
   obtain⟨sn,hs,rfl⟩:=q0v.mp huv.2
   have et:ts[i]? =some ts[i]:=q0c (by lia)
   have htm:=q0A (show i<ts.length by lia)
   have hwi:=hW.2 _ ((y4h hsl).mpr ⟨i,by lia,rfl⟩)
   have hvs:v sg i=sn:=by
        show sg.getD i 0=sn
        rw[q0b,hs];rfl
   rw[z2o,hvs] at hwi
   have hsn:=hsg sn (q0E hs)
   have k1:=z0f hp (.tup [V.ref a,V.int sn])
   have w1:upd H2 p (.tup [V.ref a,V.int sn]) p=some (.tup [V.ref a,V.int sn]):=z0d
   generalize upd H2 p (.tup [V.ref a,V.int sn])=H4 at*
   have g4:=g.trans k1
   have ea:=g4 _ _ (hts.2 i a _ ha et)
   generalize ts[i]=t at*
   obtain⟨tl,tb⟩:=zt t htm
   obtain⟨t',y,et'⟩:∃a' x,t=a'++[x]:=⟨t.dropLast,t.getLast (fun z=>by rw[z] at tl;simp at tl),(q0y _).symm⟩
   have edl:t'=t.dropLast:=by rw[et',q1F]
   have ea':H4 a=some (.tup (t'.map V.int++[V.int y])):=by rw[ea,et',q0x];rfl
   refine⟨p,_,rfl,SqT.of w1,rfl,_,_,rfl,_,_,rfl,rfl,?_⟩
   have ncut:¬(HT.sIx (t'.map V.int++[V.int y]).length 0 none=0∧HT.sIx (t'.map V.int++[V.int y]).length (t'.map V.int++[V.int y]).length (some (-1))=(t'.map V.int++[V.int y]).length):=by
        rintro⟨_,z⟩
        unfold HT.sIx at z
        rw[q0n,q0Y] at z
        simp at z
        lia
   refine⟨_,rfl,_,rfl,_,rfl,a,_,rfl,SqT.of ea',ncut,fun z hz=>?_⟩
   rw[z1F]
   have k2:=z0f hz (.tup (t'.map V.int))
   have w2:upd H4 z (.tup (t'.map V.int)) z=some (.tup (t'.map V.int)):=z0d
   generalize upd H4 z (.tup (t'.map V.int))=H5 at*
   have g5:=g4.trans k2
   have hr5:=g5 _ _ hrr
   refine⟨_,rfl,z,r,false,false,_,_,rfl,SqT.of w2,SqT.of hr5,fun D hD=>?_⟩
   have tl':t'.length=m:=by rw[edl,q1a,tl];rfl
   refine z2e rfl (z1x K false false z r (t'.map V.int) (d.dropLast.map V.int)) hD (fun _=>true) (fun c=>match c with|(.int m,.int n)=> .int (m*n)|_=> .non) ?_ (fun H' g'=>⟨SqT.of (g' _ _ w2),SqT.of (g' _ _ hr5)⟩) (z0j (by rw[q0Q,q0a,q0a];lia)) ?_ ?_ ?_
   ·intro p u v σ H hp S h
    exact⟨p,_,rfl,SqT.of hp,rfl,_,_,rfl,_,_,rfl,rfl,h⟩
   ·intro c hc Hc gc S h
    exact h
   ·intro c hc _ Hc gc S h
    obtain⟨c1,c2⟩:=c
    obtain⟨h1,h2⟩:=q1o hc
    obtain⟨m',hm,rfl⟩:=q0g.mp h1
    obtain⟨n',hn,rfl⟩:=q0g.mp h2
    exact⟨_,rfl,_,rfl,_,_,rfl,rfl,z1u (tb m' (by rw[et'];exact q0B _ hm)) (zd n' (List.dropLast_subset _ hn)),h⟩
   ·intro H6 g6 hD6
    rw[z0C] at hD6
    have em:((t'.map V.int).zip (d.dropLast.map V.int)).map (fun c=>match c with|(.int m,.int n)=>V.int (m*n)|_=> .non)=(List.zipWith (fun a b=>a*b) t' d.dropLast).map V.int:=by
     rw[z2f,q0C,List.zip_map,q0C]
     rfl
    rw[em] at hD6
    have es:(List.zipWith (fun x y=>x*y) t' d.dropLast).sum =hg m (v t) (v d):=by rw[edl];exact y3I tl hW.1.1 hW.1.2.1
    have hb1:intBits (hg m (v t) (v d))≤max 64 64+12000+m+1:=y2a (fun j _=>z1d tb j) (z1d tb m) fun j _=>z1d zd j
    have hb2:intBits sn≤64:=by rcases hsn with rfl|rfl<;>decide
    refine⟨D,_,rfl,SqL.of hD6,?_⟩
    rw[es]
    refine⟨_,rfl,_,_,rfl,rfl,z1u hb1 hb2,_,_,rfl,rfl,_,rfl,?_⟩
    refine z3i (fun c=>?_) (fun _=>⟨_,_,rfl,g5.trans g6⟩)
    have:=of_decide_eq_true c
    exfalso
    have e:hg m (v t) (v d)*sn=sn*hg m (v t) (v d):=q1J _ _
    lia
  ·rintro σ H2 ⟨s4,s5,rfl,g⟩
   exact hN _ _ ⟨_,_,rfl,g⟩
 clear g1
 rintro σ H2 ⟨s4,s5,rfl,g⟩
 exact q _ g
abbrev z2x:Stmt:=top 62
theorem sc_l_is_point:z0q ["_law_point","_law_ways","_law_part"] ["_law_point","_law_ways"] (z0i z2x):=⟨rfl,rfl,rfl,by decide+kernel,rfl,by decide+kernel,by decide+kernel⟩
def z6C (K:PySem.W.Frag):Sp:=fun vs H Q _=>∃(pp:Addr) (bs:List Addr) (sp:List Int) (m:Nat),vs=[.ref pp,.int (m:Nat)]∧H pp=some (.tup (bs.map V.ref))∧TsA H bs (sp.dropLast.map fun x=>y2D x (v sp m))∧Spt m sp∧∀H',Same H H'→Q (.bl true) H'
theorem z5Y (T:Txt mg) (F:Fun K "_law_is_point" "_law_is_point" z2x f fd) (c_l_whole:Cal P w K mg base 1 "_law_whole" ["_law_found"] z3V) (c_l_divisor:Cal P w K mg base 1 "_law_divisor" ["_law_one","_law_other"] z1L):FnOk P w K mg base CX0 2 f fd ["_law_point","_law_ways"] (z6C K):=by
 refine F.ok sc_l_is_point (fun vs H Q E h=>?_) (fun cdv A outer s H vs Q E hr h=>?_)
 ·obtain⟨_,_,_,_,rfl,_⟩:=h;rfl
 obtain⟨pp,bs,sp,m,rfl,hpp,hbs,⟨sl,vp⟩,q⟩:=h
 refine⟨_,(z0b (z0J (PW.pt (z3G (z1e (z0W (z0x z1b rfl T.isinstance boot_isinstance (z0a (pv 0) (z0a (z2m (v:= .ty "tuple") rfl T.tuple boot_tuple rfl) z0c))))) (z3a (z0A z4Q (z0x (z0M (K:=K) rfl) rfl T.len PySem.boot_len (z0a (pv 0) z0c)) (pv 1) (z0F _))))) (z0e (z0o z1r)) z0y)
  (z0b (z0T PassesOwn.never rfl (z4p (K:=K) rfl (pv 0)) (z0k (i:=2) sc_l_is_point.nd rfl (Or.inl rfl)) (z0b (z0J (PW.pt (z3G (z1e (z0W (z0x z1b rfl T.isinstance boot_isinstance (z0a (pv 2) (z0a (z2m (v:= .ty "tuple") rfl T.tuple boot_tuple rfl) z0c))))) (z3G (z0A z4Q (z0x (z0M (K:=K) rfl) rfl T.len PySem.boot_len (z0a (pv 2) z0c)) z0g (z0F _)) (z3G (z1e (z0W (z0m c_l_whole hr rfl (z0a (z0G (z0P (K:=K) rfl) (pv 2) z0g (fun _ _=>rfl)) z0c)))) (z3a (z1e (z0W (z0m c_l_whole hr rfl (z0a (z0G (z0P (K:=K) rfl) (pv 2) z0g (fun _ _=>rfl)) z0c))))))))) (z0e (z0o z1r)) z0y)
  (z0e (z0J (PW.pt (z3G (z0A z4R (z0G (z0P (K:=K) rfl) (pv 2) z0g (fun _ _=>rfl)) z0g (z0F _)) (z3a (z0A z4Q (z0m c_l_divisor hr rfl (z0a (z0G (z0P (K:=K) rfl) (pv 2) z0g (fun _ _=>rfl)) (z0a (z0G (z0P (K:=K) rfl) (pv 2) z0g (fun _ _=>rfl)) z0c))) z0g (z0F _))))) (z0e (z0o z1r)) z0y))))
  (z0e (z0o z1r)))),?_⟩
 have bl:bs.length=m:=by rw[hbs.1,q0a,q1a,sl];rfl
 refine z0w (fun σ H'=>σ=[some (.ref pp),some (.int (m:Nat)),none]∧H=H') (fun N hN=>?_) ?_
 ·refine⟨_,rfl,_,_,_,_,rfl,.tup hpp,rfl,_,rfl,?_⟩
  refine z1I ?_
  refine⟨_,rfl,pp,_,rfl,.inr (SqT.of hpp),_,rfl,rfl,_,rfl,?_⟩
  rw[q0a,bl]
  exact y3A rfl (hN _ _ ⟨rfl,rfl⟩)
 rintro σ H0 ⟨rfl,rfl⟩
 refine z0w (fun σ H'=>∃s2,σ=[some (.ref pp),some (.int (m:Nat)),s2]∧Same H H') (fun N hN=>?_) ?_
 ·refine⟨_,rfl,pp,rfl,⟨_,SqT.of hpp⟩,?_⟩
  refine z0E (z2H K pp (bs.map V.ref)) (fun i σ H'=>∃s2,σ=[some (.ref pp),some (.int (m:Nat)),s2]∧Same H H') ⟨_,rfl,Same.refl _⟩ (fun _ _ _ _ h=>by obtain⟨_,_,g⟩:=h;exact SqT.of (g _ _ hpp)) ?_ ?_
  ·rintro i x σ H1 H2 hi ⟨s2,rfl,g⟩ ⟨rfl,hx⟩
   rw[q0a,bl] at hi
   rw[q0h] at hx
   obtain⟨bi,hbi,rfl⟩:=q0v.mp hx
   have hid:i<sp.dropLast.length:=by rw[q1a,sl];lia
   have eb:=g _ _ (hbs.2 i bi _ hbi (by rw[q0h,q0c hid];rfl))
   obtain⟨nn,dd,er,lo,_⟩:=z8H (x:=sp.dropLast[i]'hid) vp
   have eb:H2 bi=some (.tup [V.int nn,V.int dd]):=by rw[eb];show some (HO.tup ((y2D (sp.dropLast[i]'hid) (v sp m)).map V.int))=_;rw[er];rfl
   have lp:=lo.pos
   refine⟨_,rfl,_,_,_,_,rfl,.tup eb,rfl,_,rfl,?_⟩
   refine z1I ?_
   refine⟨_,rfl,bi,_,rfl,.inr (SqT.of eb),rfl,_,rfl,?_⟩
   refine y3A rfl ?_
   refine⟨_,rfl,_,_,_,_,rfl,rfl,SqT.of eb,rfl,nn,rfl,_,rfl,?_⟩
   refine z1I ?_
   refine⟨_,rfl,_,_,_,_,rfl,rfl,SqT.of eb,rfl,dd,rfl,_,rfl,?_⟩
   refine z1I ?_
   refine⟨_,rfl,_,_,_,_,rfl,rfl,SqT.of eb,rfl,_,_,rfl,rfl,_,rfl,?_⟩
   rw[decide_eq_false (show ¬dd<1 by lia)]
   refine z1I ?_
   refine⟨_,rfl,_,_,_,_,rfl,rfl,SqT.of eb,rfl,_,rfl,_,_,_,_,rfl,rfl,SqT.of eb,rfl,nn,dd,rfl,rfl,_,rfl,?_⟩
   rw[lo.one]
   exact z1I ⟨_,rfl,g⟩
  ·rintro σ H1 ⟨s2,rfl,g⟩
   exact hN _ _ ⟨_,rfl,g⟩
 rintro σ H1 ⟨s2,rfl,g⟩
 exact q _ g
end
end L2
namespace L2
open PySem PySem.Spec PyProof.Rows
section
open Fr Wl Rk Pt Ld
open Builtin.Int (intBits)
variable {P:Program}{w:World}{K:PySem.W.Frag}{mg:Str→Option Value}{base:Heap}{f:Addr}{fd:FuncData}
structure DueA (H:Hp) (ls ld:Addr) (m:Nat) (bs es:List Addr) (ts:List (List Int)):Prop where
 sh:H ls=some (.lst (bs.map V.ref))
 rows:TsA H bs ts
 du:H ld=some (.lst (es.map V.ref))
 sgs:TsA H es (sgN m ts ts.length)
theorem DueA.same {H H':Hp}{ls ld:Addr}{m:Nat}{bs es:List Addr}{ts:List (List Int)} (h:DueA H ls ld m bs es ts) (g:Same H H'):DueA H' ls ld m bs es ts:=⟨g _ _ h.sh,h.rows.same g,g _ _ h.du,h.sgs.same g⟩
theorem y2g {H:Hp}{α:Type}{g:α→Int}{cs:List α}{us:List V} (h:Each (fun e u=>u=V.int (g e)) cs us):us=(cs.map g).map V.int:=by
 induction h with
 |nil=>rfl
 |cons a _ ih=>rw[a,ih];rfl
abbrev z4g:Stmt:=top 63
theorem sc_l_lands:z0q ["_law_found","_law_ways","_law_shuts","_law_due","_law_signs","_law_point"] ["_law_found","_law_ways","_law_shuts","_law_due"] (z0i z4g):=⟨rfl,rfl,rfl,by decide+kernel,rfl,by decide+kernel,by decide+kernel⟩
def z8y (K:PySem.W.Frag):Sp:=fun vs H Q _=>∃(r ls ld:Addr) (bs es:List Addr) (ts:List (List Int)) (xs:List V) (dd:List LandD) (m:Nat),vs=[.ref r,.int (m:Nat),.ref ls,.ref ld]∧H r=some (.lst xs)∧Each (LandPt H m) dd xs∧(∀d∈dd,z2Y m 3 3 ts d)∧dd.map LandD.sg=sgN m ts ts.length∧DueA H ls ld m bs es ts∧Wls m ts∧∀H',Same H H'→Q (.bl true) H'
theorem z9F (T:Txt mg) (F:Fun K "_law_lands" "_law_lands" z4g f fd) (c_l_is_point:Cal P w K mg base 4 "_law_is_point" ["_law_point","_law_ways"] (z6C K)) (c_side:Cal P w K mg base 4 "side" ["wall","point"] (y3X K)):FnOk P w K mg base CX0 5 f fd ["_law_found","_law_ways","_law_shuts","_law_due"] (z8y K):=by
 refine F.ok sc_l_lands (fun vs H Q E h=>?_) (fun cdv A outer s H vs Q E hr h=>?_)
 ·obtain⟨_,_,_,_,_,_,_,_,_,rfl,_⟩:=h;rfl
 obtain⟨r,ls,ld,bs,es,ts,xs,dd,m,rfl,er,hE,hG,hsg,hD,hW,q⟩:=h
 refine⟨_,(z0b (z0J (PW.pt (z3G (z1e (z0W (z0x z1b rfl T.isinstance boot_isinstance (z0a (pv 0) (z0a (z2m (v:= .ty "list") rfl T.list boot_list rfl) z0c))))) (z3a (z0A (z4s (K:=K) rfl hr.units) (z0L (Nc:=["_law_signs","_law_point"]) (fr:=[none,none]) rfl (z0D (K:=K) rfl (pv 0)) rfl (by decide) rfl (by decide) rfl trivial trivial (fun _ _ _ _=>(z0S (K:=K) rfl 2 rfl (z0u (z0k (i:=0) (show List.Nodup (["_law_signs","_law_point"]:List Str) from by decide) rfl (Or.inl rfl)) (z0u (z0k (i:=1) (show List.Nodup (["_law_signs","_law_point"]:List Str) from by decide) rfl (Or.inl rfl)) z0R)))) (fun _ _ _ _=>z0K) (fun _ _ _ _=>(pv 0))) (pv 3) (z0F _))))) (z0e (z0o z1r)) z0y)
  (z0b (z0T PassesOwn.never rfl (z0D (K:=K) rfl (pv 0)) (z0S (K:=K) rfl 2 rfl (z0u (z0k (i:=4) sc_l_lands.nd rfl (Or.inl rfl)) (z0u (z0k (i:=5) sc_l_lands.nd rfl (Or.inr rfl)) z0R))) (z0e (z0J (PW.pt (z3G (z1e (z0W (z0m c_l_is_point hr rfl (z0a (pv 5) (z0a (pv 1) z0c))))) (z3a (z0A (z4s (K:=K) rfl hr.units) (z1i (z1R (K:=K) rfl) rfl T.tuple boot_tuple (z0a (z0L (Nc:=["_law_one","_law_point"]) (fr:=[none,some 5]) rfl (z0D (K:=K) rfl (pv 2)) rfl (by decide) rfl (by decide) rfl ⟨rfl,trivial⟩ ⟨⟨rfl,rfl,rfl,rfl⟩,trivial⟩ (fun _ _ _ _=>(z0k (i:=0) (show List.Nodup (["_law_one","_law_point"]:List Str) from by decide) rfl (Or.inl rfl))) (fun _ _ _ _=>z0K) (fun _ _ _ _=>(z0m c_side hr rfl (z0a (pv 0) (z0a (pv 1) z0c))))) z0c)) (pv 4) (z0F _))))) (z0e (z0o z1r)) z0y)))
  (z0e (z0o z1r)))),?_⟩
 have m3:=hW.m3
 have n4:=hW.n4
 have hSb:=hW.sb
 obtain⟨cs,ecs,hcs,hpt⟩:=z3x hE
 have ecs2:cs.map (fun e=>e.1.sg)=sgN m ts ts.length:=by rw[←hsg,←ecs,q0C];rfl
 have hxl:xs.length≤16:=by rw[←hcs.length,←q0a (f:=fun e:LandD×Addr×Addr=>e.1.sg),ecs2];exact z7g hW
 refine z0w (fun σ H'=>σ=[some (.ref r),some (.int (m:Nat)),some (.ref ls),some (.ref ld),none,none]∧Same H H') (fun N hN=>?_) ?_
 ·refine⟨_,rfl,_,_,_,_,rfl,.lst er,rfl,_,rfl,?_⟩
  refine z1I ?_
  refine⟨_,rfl,r,rfl,⟨_,SqL.of er⟩,fun D hD'=>?_⟩
  refine z0X cs hcs.length.symm (z0z K r xs) hD' (fun e σ=>(σ.set 0 (some (.ref e.1.a))).set 1 (some (.ref e.2.2))) (fun d e σ=>z1M _ _ _ _ _) (fun _=>true) (fun H' e u=>u= .ref e.1.a) (fun _ _ _ _ _ _ h=>h) (fun H' g'=>SqL.of (g' _ _ er)) (z0j (by lia)) ?_ ?_ ?_ ?_
  ·intro i y d hy hd σ H2 g2 S h
   obtain⟨rfl,h1,_⟩:=hcs.get hd hy
   exact⟨_,_,rfl,SqT.of (g2 _ _ h1),rfl,_,_,rfl,_,_,rfl,rfl,h⟩
  ·intro d hd Hc gc S h
   exact h _ (Same.refl _)
  ·intro d hd _ Hc gc _ S h
   exact⟨_,rfl,h _ _ (Same.refl _) rfl⟩
  ·intro us H1 g1 hD1 he
   rw[z0C] at he
   have eu:us=(cs.map fun e=>e.1.a).map V.ref:=by
        clear hD1 hcs ecs ecs2 hpt
        induction he with
        |nil=>rfl
        |cons h1 _ ih=>rw[h1,ih];rfl
   subst eu
   have hT:=z6Y hcs g1
   rw[ecs2] at hT
   refine⟨_,rfl,D,ld,_,_,rfl,rfl,z8Z hD1 hT,z8Z (g1 _ _ hD.du) (hD.sgs.same g1),y1r _ _,_,rfl,?_⟩
   rw[(Dt.eqb_iff _ _).mpr rfl]
   exact z1I (hN _ _ ⟨rfl,g1⟩)
 rintro σ H1 ⟨rfl,g1⟩
 refine z0w (fun σ H'=>∃s4 s5,σ=[some (.ref r),some (.int (m:Nat)),some (.ref ls),some (.ref ld),s4,s5]∧Same H H') (fun N hN=>?_) ?_
 ·refine⟨_,rfl,r,rfl,⟨_,SqL.of (g1 _ _ er)⟩,?_⟩
  refine z0E (z0z K r xs) (fun i σ H'=>∃s4 s5,σ=[some (.ref r),some (.int (m:Nat)),some (.ref ls),some (.ref ld),s4,s5]∧Same H H') ⟨_,_,rfl,g1⟩ (fun _ _ _ _ h=>by obtain⟨_,_,_,g⟩:=h;exact SqL.of (g _ _ er)) ?_ ?_
  ·clear g1
   rintro i x σ H2' H2 hi ⟨s4,s5,rfl,g⟩ ⟨rfl,hx⟩
   have hic:i<cs.length:=by rw[hcs.length];exact hi
   have hc:=q0c hic
   obtain⟨rfl,h1,h2⟩:=hcs.get hc hx
   obtain⟨bs',h3,h4⟩:=hpt _ (q0A hic)
   have gd:z2Y m 3 3 ts cs[i].1 :=hG _ (by rw[←ecs];exact q0G (q0A hic))
   generalize cs[i]=e at*
   have sb:∀n∈e.1.sp,intBits n≤500:=fun n hn=>z0t (gd.bits n hn) hSb
   refine⟨_,_,rfl,SqT.of (g _ _ h1),rfl,_,_,rfl,_,_,rfl,rfl,?_⟩
   refine⟨_,rfl,_,rfl,e.2.2,bs',e.1.sp,m,rfl,g _ _ h3,h4.same g,gd.win.1,fun H3 g3=>?_⟩
   have g03:=g.trans g3
   refine⟨_,rfl,?_⟩
   refine z1I ?_
   refine⟨_,rfl,ls,rfl,⟨_,SqL.of (g03 _ _ hD.sh)⟩,fun D hD'=>?_⟩
   have hrw:=hD.rows.same g03
   refine z0X (bs.zip ts) (by rw[q0a,q0Q,hrw.1,Nat.min_self]) (z0z K ls (bs.map V.ref)) hD' (fun d σ=>σ.set 0 (some (.ref d.1))) (fun d e σ=>List.set_set ..) (fun _=>true) (fun H' d u=>u= .int (sgn (hg m (v d.2) (v e.1.sp)))) (fun _ _ _ _ _ _ h=>h) (fun H' g'=>SqL.of (g' _ _ (g03 _ _ hD.sh))) (z0j (by rw[q0a,hrw.1];lia)) ?_ ?_ ?_ ?_
   ·intro j y d hy hd σ H4 g4 S h
    rw[q0h] at hy
    obtain⟨b',hb',rfl⟩:=q0v.mp hy
    have:d.1=b':=by
     rw[q0K] at hd
     rw[hb'] at hd
     exact (Option.some.inj hd.1).symm
    rw[this] at h
    exact h
   ·intro d hd Hc gc S h
    exact h _ (Same.refl _)
   ·intro d hd _ Hc gc _ S h
    obtain⟨k,hk,ek⟩:=q0I.mp hd
    have hk':=hk
    rw[q0Q] at hk'
    have e1:bs[k]? =some d.1:=by rw[←ek];simp[show k<bs.length by lia]
    have e2:ts[k]? =some d.2:=by rw[←ek];simp[show k<ts.length by lia]
    have htm:=q0E e2
    exact⟨_,rfl,_,rfl,d.1,e.2.2,bs',d.2,e.1.sp,m,rfl,gc _ _ (hrw.2 k _ _ e1 e2),(g03.trans gc) _ _ h3,h4.same (g03.trans gc),gd.win.1,(hW.wl _ htm).len,by lia,fun n hn=>z0t (hW.bd _ htm n hn) (by decide),sb,fun H5 g5=>h _ _ g5 rfl⟩
   ·intro us H4 g4 hD4 he
    rw[z0C] at he
    have eu:=y2g (H:=H4) (g:=fun d:Addr×List Int=>sgn (hg m (v d.2) (v e.1.sp))) he
    have es':(bs.zip ts).map (fun d=>sgn (hg m (v d.2) (v e.1.sp)))=e.1.sg:=by
     refine List.ext_getElem (by rw[q0a,q0Q,hrw.1,Nat.min_self,gd.len]) fun k h5 h6=>?_
     rw[List.getElem_map,List.getElem_zip]
     have hkt:k<ts.length:=by rw[gd.len];exact h6
     have hw:=gd.win.2 _ ((y4h gd.len.symm).mpr ⟨k,hkt,rfl⟩)
     have hv:v e.1.sg k=e.1.sg[k]:=by
         show e.1.sg.getD k 0=_
         rw[q0b,q0c h6];rfl
     rw[z2o,hv] at hw
     exact y2N (gd.sgn _ (q0A h6)) hw
    rw[es'] at eu
    subst eu
    refine⟨D,_,rfl,.inl ⟨SqL.of hD4,fun r2 hr2=>?_⟩⟩
    have g5:=z0f hr2 (.tup (e.1.sg.map V.int))
    have e5:upd H4 r2 (.tup (e.1.sg.map V.int)) r2=some (.tup (e.1.sg.map V.int)):=z0d
    generalize upd H4 r2 (.tup (e.1.sg.map V.int))=H5 at*
    have g05:=g03.trans (g4.trans g5)
    refine⟨_,rfl,r2,e.1.a,_,_,rfl,rfl,z9V e5,z9V (g05 _ _ h2),ok_t _ _,_,rfl,?_⟩
    rw[(Dt.eqb_iff _ _).mpr rfl]
    exact z1I ⟨_,_,rfl,g05⟩
  ·rintro σ H2 ⟨s4,s5,rfl,g⟩
   exact hN _ _ ⟨_,_,rfl,g⟩
 clear g1
 rintro σ H2 ⟨s4,s5,rfl,g⟩
 exact q _ g
end
end L2
namespace L2
open PySem PySem.Spec PyProof.Rows
section
open Fr Wl Rk Pt Ld
open Builtin.Int (intBits)
variable {P:Program}{w:World}{K:PySem.W.Frag}{mg:Str→Option Value}{base:Heap}{f:Addr}{fd:FuncData}
abbrev z5N:Stmt:=top 64
theorem sc_l_outs:z0q ["_law_outs_here","_law_ways","_law_shuts","_law_due","_law_signs","_law_way"] ["_law_outs_here","_law_ways","_law_shuts","_law_due"] (z0i z5N):=⟨rfl,rfl,rfl,by decide+kernel,rfl,by decide+kernel,by decide+kernel⟩
def y0B (K:PySem.W.Frag):Sp:=fun vs H Q _=>∃(r ls ld:Addr) (bs es:List Addr) (ts:List (List Int)) (us:List V) (m:Nat),vs=[.ref r,.int (m:Nat),.ref ls,.ref ld]∧H r=some (.lst us)∧Each (OutAt H m ts) (sgN m ts ts.length) us∧DueA H ls ld m bs es ts∧Wls m ts∧∀H',Same H H'→Q (.bl true) H'
theorem y1y (T:Txt mg) (F:Fun K "_law_outs" "_law_outs" z5N f fd) (c_way_out:Cal P w K mg base 19 "way_out" ["ways","walls","signs"] (z5w K)) (c_l_goes_on:Cal P w K mg base 19 "_law_goes_on" ["_law_shuts","_law_signs","_law_way","_law_ways"] (z8B K)):FnOk P w K mg base CX0 20 f fd ["_law_outs_here","_law_ways","_law_shuts","_law_due"] (y0B K):=by
 refine F.ok sc_l_outs (fun vs H Q E h=>?_) (fun cdv A outer s H vs Q E hr h=>?_)
 ·obtain⟨_,_,_,_,_,_,_,_,rfl,_⟩:=h;rfl
 obtain⟨r,ls,ld,bs,es,ts,us,m,rfl,er,hE,hD,hW,q⟩:=h
 refine⟨_,(z0b (z0J (PW.pt (z3G (z1e (z0W (z0x z1b rfl T.isinstance boot_isinstance (z0a (pv 0) (z0a (z2m (v:= .ty "list") rfl T.list boot_list rfl) z0c))))) (z3a (z0A z4Q (z0x (z0M (K:=K) rfl) rfl T.len PySem.boot_len (z0a (pv 0) z0c)) (z0x (z0M (K:=K) rfl) rfl T.len PySem.boot_len (z0a (pv 3) z0c)) (z0F _))))) (z0e (z0o z1r)) z0y)
  (z0b (z0T PassesOwn.never rfl (z2A (K:=K) rfl rfl T.zip (z0a (pv 3) (z0a (pv 0) z0c))) (z0S (K:=K) rfl 2 rfl (z0u (z0k (i:=4) sc_l_outs.nd rfl (Or.inl rfl)) (z0u (z0k (i:=5) sc_l_outs.nd rfl (Or.inl rfl)) z0R))) (z0e (z0J (z3b (z5i (pv 5))) (z0e (z0J (z3b (z5T (z0m c_way_out hr rfl (z0a (pv 1) (z0a (pv 2) (z0a (pv 4) z0c)))))) (z0e (z0o z1r)) z0y)) (z0e (z0J (z1e (z0W (z0m c_l_goes_on hr rfl (z0a (pv 2) (z0a (pv 4) (z0a (pv 5) (z0a (pv 1) z0c))))))) (z0e (z0o z1r)) z0y)))))
  (z0e (z0o z1r)))),?_⟩
 have m3:=hW.m3
 have n4:=hW.n4
 have hul:us.length=(sgN m ts ts.length).length :=hE.length.symm
 have hel:es.length=(sgN m ts ts.length).length :=hD.sgs.1
 refine z0w (fun σ H'=>σ=[some (.ref r),some (.int (m:Nat)),some (.ref ls),some (.ref ld),none,none]∧H=H') (fun N hN=>?_) ?_
 ·refine⟨_,rfl,_,_,_,_,rfl,.lst er,rfl,_,rfl,?_⟩
  refine z1I ?_
  refine⟨_,rfl,r,_,rfl,.inl (SqL.of er),_,rfl,ld,_,rfl,.inl (SqL.of hD.du),rfl,_,rfl,?_⟩
  rw[q0a,hul,hel]
  exact y3A rfl (hN _ _ ⟨rfl,rfl⟩)
 rintro σ H0 ⟨rfl,rfl⟩
 refine z0w (fun σ H'=>∃s4 s5,σ=[some (.ref r),some (.int (m:Nat)),some (.ref ls),some (.ref ld),s4,s5]∧Same H H') (fun N hN=>?_) ?_
 ·refine⟨_,rfl,_,rfl,ld,r,true,true,_,_,rfl,SqL.of hD.du,SqL.of er,?_⟩
  refine z0E (z1x K true true ld r (es.map V.ref) us) (fun i σ H'=>∃s4 s5,σ=[some (.ref r),some (.int (m:Nat)),some (.ref ls),some (.ref ld),s4,s5]∧Same H H') ⟨_,_,rfl,Same.refl _⟩ (fun i σ H' _ h=>by obtain⟨_,_,_,g⟩:=h;exact⟨SqL.of (g _ _ hD.du),SqL.of (g _ _ er)⟩) ?_ ?_
  ·rintro i x σ H2 H3 hi ⟨s4,s5,rfl,g⟩ ⟨p,u,u2,rfl,hp,huv,rfl⟩
   rw[q0Q,q0a,hel,hul,Nat.min_self] at hi
   rw[q0K,q0h] at huv
   obtain⟨a,ha,rfl⟩:=q0v.mp huv.1
   have k1:=z0f hp (.tup [V.ref a,u2])
   have w1:upd H2 p (.tup [V.ref a,u2]) p=some (.tup [V.ref a,u2]):=z0d
   generalize upd H2 p (.tup [V.ref a,u2])=H4 at*
   have g4:=g.trans k1
   have hs:(sgN m ts ts.length)[i]? =some (sgN m ts ts.length)[i]:=q0c hi
   have hland:=(z8a (q0j _)).mp (q0A hi)
   have ho:=(hE.get hs huv.2).same g4
   have ea:=g4 _ _ (hD.sgs.2 i a _ ha hs)
   have hD4:=hD.same g4
   generalize (sgN m ts ts.length)[i]=sg at*
   rw[q0T] at hland
   have hil:z5s m ts sg:=hland
   refine⟨p,_,rfl,SqT.of w1,rfl,_,_,rfl,_,_,rfl,rfl,?_⟩
   rcases ho with⟨rfl,hn⟩|⟨q',d,rfl,eq',hwy,hb⟩
   ·refine⟨_,rfl,_,rfl,?_⟩
    refine z4N ?_
    refine⟨_,rfl,_,rfl,_,rfl,m,ls,a,bs,ts,sg,3,3,rfl,⟨hD4.sh,hD4.rows,hW.bds,hW.lim,by lia,by lia⟩,ea,by rw[hil.1];lia,hil,fun r2 d2 H5 g5 e5 hw5 _=>absurd ⟨d2,hw5⟩ hn,fun H5 g5 _=>?_⟩
    refine⟨_,rfl,?_⟩
    exact z1I ⟨_,_,rfl,g4.trans g5⟩
   ·refine⟨_,rfl,_,rfl,?_⟩
    refine z1I ?_
    refine⟨_,rfl,_,rfl,_,rfl,_,rfl,ls,a,q',bs,ts,sg,d,m,rfl,hD4.sh,hD4.rows,ea,eq',hwy,hil.1,hil.2.1,by lia,by lia,fun t ht=>⟨(hW.wl t ht).len,fun n hn=>z0t (hW.bd t ht n hn) (by decide)⟩,hb,fun H5 g5=>?_⟩
    refine⟨_,rfl,?_⟩
    exact z1I ⟨_,_,rfl,g4.trans g5⟩
  ·rintro σ H2 ⟨s4,s5,rfl,g⟩
   exact hN _ _ ⟨_,_,rfl,g⟩
 rintro σ H2 ⟨s4,s5,rfl,g⟩
 exact q _ g
end
end L2
namespace L2
open PySem PySem.Spec PyProof.Rows
section
open Fr Wl Rk Pt Ld
open Builtin.Int (intBits)
variable {P:Program}{w:World}{K:PySem.W.Frag}{mg:Str→Option Value}{base:Heap}{f:Addr}{fd:FuncData}{C fP fT fW fY fL fO:Addr}{fdW fdY fdL fdO:FuncData}
theorem y2e {α:Type}{g:α→Addr}{cs:List α}{us:List V} (h:Each (fun e u=>u=V.ref (g e)) cs us):us=(cs.map g).map V.ref:=by
 induction h with
 |nil=>rfl
 |cons a _ ih=>rw[a,ih];rfl
theorem z4v {H H':Hp}{a:Addr} (g:Same H H') (h:H' a=none):H a=none:=by
 cases e:H a with
 |none=>rfl
 |some o=>rw[g _ _ e] at h;cases h
abbrev z5O:Stmt:=top 65
theorem sc_l_fits:z0q ["_law_hall","_law_ways","_law_shuts","_law_polynomial","_law_due","_law_k","_law_told","_law_found","_law_outs_here"] ["_law_hall","_law_ways","_law_shuts"] (z0i z5O):=⟨rfl,rfl,rfl,by decide+kernel,rfl,by decide+kernel,by decide+kernel⟩
def z8C (K:PySem.W.Frag) (C:Addr):Sp:=fun vs H Q _=>∃(x dx st ls:Addr) (m:Nat) (as bs:List Addr) (ts:List (List Int)),vs=[.ref x,.int (m:Nat),.ref ls]∧HA C H x dx st m as ts∧H ls=some (.lst (bs.map V.ref))∧TsA H bs ts∧Wls m ts∧∀H',Same H H'→Q (.bl true) H'
theorem y1z (T:Txt mg) (hl:Hl K mg C fP fT fW fY fL fO) (F:Fun K "_law_fits" "_law_fits" z5O f fd) (Fwalls:FnOk P w K mg base CX0 21 fW fdW ["self"] (z5z C)) (bwalls:Binds K fdW ["self"] []) (Fpoly:FnOk P w K mg base CX0 21 fY fdY ["self"] (y0E K C)) (bpoly:Binds K fdY ["self"] []) (Flands:FnOk P w K mg base CX0 21 fL fdL ["self"] (z5A K C)) (blands:Binds K fdL ["self"] []) (Fouts:FnOk P w K mg base CX0 21 fO fdO ["self"] (y0F K C)) (bouts:Binds K fdO ["self"] [])
 (c_by_lots:Cal P w K mg base 21 "by_lots" ["ways","walls"] (z8G K)) (c_lands_lands:Cal P w K mg base 21 "lands_lands" ["ways","walls"] (z7z K)) (c_l_lands:Cal P w K mg base 21 "_law_lands" ["_law_found","_law_ways","_law_shuts","_law_due"] (z8y K)) (c_l_outs:Cal P w K mg base 21 "_law_outs" ["_law_outs_here","_law_ways","_law_shuts","_law_due"] (y0B K)):FnOk P w K mg base CX0 22 f fd ["_law_hall","_law_ways","_law_shuts"] (z8C K C):=by
 refine F.ok sc_l_fits (fun vs H Q E h=>?_) (fun cdv A outer s H vs Q E hr h=>?_)
 ·obtain⟨_,_,_,_,_,_,_,_,rfl,_⟩:=h;rfl
 obtain⟨x,dx,st,ls,m,as,bs,ts,rfl,hA,hls,hbs,hW,q⟩:=h
 refine⟨_,(z0b (z0J (z0A (z4s (K:=K) rfl hr.units) (z2l (pv 0) hl.cl hl.mwalls Fwalls hr bwalls .nil z3H) (pv 2) (z0F _)) (z0e (z0o z1r)) z0y)
  (z0b (z0p (i:=3) sc_l_fits.nd rfl (Or.inl rfl) (z0m c_by_lots hr rfl (z0a (pv 1) (z0a (pv 2) z0c))))
  (z0b (z3u (jj:=4) rfl sc_l_fits.nd rfl (Or.inl rfl) (Or.inl rfl) (Nc:=["_law_signs","_law_point"]) (fr:=[none,none]) rfl (z0D (K:=K) rfl (z0m c_lands_lands hr rfl (z0a (pv 1) (z0a (pv 2) z0c)))) rfl (by decide) rfl (by decide) rfl trivial trivial (fun _ _ _ _=>(z0S (K:=K) rfl 2 rfl (z0u (z0k (i:=0) (show List.Nodup (["_law_signs","_law_point"]:List Str) from by decide) rfl (Or.inl rfl)) (z0u (z0k (i:=1) (show List.Nodup (["_law_signs","_law_point"]:List Str) from by decide) rfl (Or.inl rfl)) z0R)))) (fun _ _ _ _=>z0K) (fun _ _ _ _=>(pv 0)))
  (z0b (z0T PassesOwn.never rfl (z1y rfl T.range (z0a z0g z0c)) (z0k (i:=5) sc_l_fits.nd rfl (Or.inl rfl)) (z0b (z0p (i:=6) sc_l_fits.nd rfl (Or.inl rfl) (z2l (pv 0) hl.cl hl.mpoly Fpoly hr bpoly .nil z3H))
  (z0b (z0p (i:=7) sc_l_fits.nd rfl (Or.inl rfl) (z2l (pv 0) hl.cl hl.mlands Flands hr blands .nil z3H))
  (z0b (z0p (i:=8) sc_l_fits.nd rfl (Or.inl rfl) (z2l (pv 0) hl.cl hl.mouts Fouts hr bouts .nil z3H))
  (z0b (z0J (PW.pt (z3G (z0A (z4s (K:=K) rfl hr.units) (pv 6) (pv 3) (z0F _)) (z3a (z1e (z0W (z0m c_l_lands hr rfl (z0a (pv 7) (z0a (pv 1) (z0a (pv 2) (z0a (pv 4) z0c)))))))))) (z0e (z0o z1r)) z0y)
  (z0b (z0J (z1e (z0W (z0m c_l_outs hr rfl (z0a (pv 8) (z0a (pv 1) (z0a (pv 2) (z0a (pv 4) z0c))))))) (z0e (z0o z1r)) z0y)
  (z0b (z1o (z4q PySem.F.plainAttrs_list PySem.F.slot_list_append PySem.F.type_list_append z1j (pv 6) (z0a z0g z0c)))
  (z0b (z1o (y6r PySem.F.plainAttrs_list PySem.F.slot_list_pop PySem.F.type_list_pop y6D (pv 7)))
  (z0e (z1o (z4q PySem.F.plainAttrs_list PySem.F.slot_list_append PySem.F.type_list_append z1j (pv 8) (z0a z0g z0c))))))))))))
  (z0e (z0o z1r)))))),?_⟩
 have m3:=hW.m3
 have n4:=hW.n4
 refine z0w (fun σ H'=>σ=[some (.ref x),some (.int (m:Nat)),some (.ref ls),none,none,none,none,none,none]∧Same H H') (fun N hN=>?_) ?_
 ·refine⟨_,rfl,x,dx,_,rfl,hA.hx,rfl,x,dx,st,(m:Nat),as,rfl,hA.hx,hA.hst,fun l hl0=>?_⟩
  have g1:=z0f hl0 (.lst (as.map V.ref))
  have e1:upd H l (.lst (as.map V.ref)) l=some (.lst (as.map V.ref)):=z0d
  generalize upd H l (.lst (as.map V.ref))=H1 at*
  refine⟨_,rfl,l,ls,_,_,rfl,rfl,z8Z e1 (hA.rows.same g1),z8Z (g1 _ _ hls) (hbs.same g1),y1r _ _,_,rfl,?_⟩
  rw[(Dt.eqb_iff _ _).mpr rfl]
  exact z1I (hN _ _ ⟨rfl,g1⟩)
 rintro σ H1 ⟨rfl,g1⟩
 refine z0w (fun σ H'=>∃lp,σ=[some (.ref x),some (.int (m:Nat)),some (.ref ls),some (.ref lp),none,none,none,none,none]∧Same H H'∧H' lp=some (.lst ((y2E m ts).map V.int))) (fun N hN=>?_) ?_
 ·refine⟨_,rfl,_,rfl,ls,bs,ts,m,3,rfl,g1 _ _ hls,hbs.same g1,by lia,by lia,by decide,fun t ht=>⟨(hW.wl t ht).len,hW.bd t ht⟩,fun lp H2 hlp g2 e2=>hN _ _ ⟨lp,rfl,g1.trans g2,e2⟩⟩
 clear g1
 rintro σ H2 ⟨lp,rfl,g2,elp⟩
 have hne:sgN m ts ts.length≠[]:=fun z=>by
  obtain⟨s,hs⟩:=y4a (w:=m) (ts:=ts) (fun t ht=>⟨(hW.wl t ht).len,(hW.wl t ht).fp⟩) ts.length (q0j _)
  rw[z] at hs;cases hs
 refine z0w (fun σ H'=>∃ld es,σ=[some (.ref x),some (.int (m:Nat)),some (.ref ls),some (.ref lp),some (.ref ld),none,none,none,none]∧Same H H'∧H' lp=some (.lst ((y2E m ts).map V.int))∧DueA H' ls ld m bs es ts) (fun N hN=>?_) ?_
 ·refine⟨_,rfl,_,rfl,m,ls,bs,ts,3,3,rfl,g2 _ _ hls,hbs.same g2,hW.bds,hW.lim,by lia,by lia,fun r xs dd H3 hr3 g3 er hE hG hsg=>?_⟩
  refine⟨r,rfl,⟨_,SqL.of er⟩,fun D hD=>?_⟩
  obtain⟨cs,ecs,hcs,_⟩:=z3x hE
  have ecs2:cs.map (fun e=>e.1.sg)=sgN m ts ts.length:=by rw[←hsg,←ecs,q0C];rfl
  have hxl:xs.length≤16:=by rw[←hcs.length,←q0a (f:=fun e:LandD×Addr×Addr=>e.1.sg),ecs2];exact z7g hW
  refine z0X cs hcs.length.symm (z0z K r xs) hD (fun e σ=>(σ.set 0 (some (.ref e.1.a))).set 1 (some (.ref e.2.2))) (fun d e σ=>z1M _ _ _ _ _) (fun _=>true) (fun H' e u=>u= .ref e.1.a) (fun _ _ _ _ _ _ h=>h) (fun H' g'=>SqL.of (g' _ _ er)) (z0j (by lia)) ?_ ?_ ?_ ?_
  ·intro i y d hy hd σ H4 g4 S h
   obtain⟨rfl,h1,_⟩:=hcs.get hd hy
   exact⟨_,_,rfl,SqT.of (g4 _ _ h1),rfl,_,_,rfl,_,_,rfl,rfl,h⟩
  ·intro d hd Hc gc S h
   exact h _ (Same.refl _)
  ·intro d hd _ Hc gc _ S h
   exact⟨_,rfl,h _ _ (Same.refl _) rfl⟩
  ·intro us H4 g4 hD4 he
   rw[z0C] at he
   have eu:=y2e (g:=fun e:LandD×Addr×Addr=>e.1.a) he
   subst eu
   have hT:=z6Y hcs g4
   rw[ecs2] at hT
   have g24:=g2.trans (g3.trans g4)
   exact hN _ _ ⟨D,_,rfl,g24,(g3.trans g4) _ _ elp,g24 _ _ hls,hbs.same g24,hD4,hT⟩
 clear g2 elp
 rintro σ H3 ⟨ld,es,rfl,g3,elp,hD⟩
 refine z0w (fun σ H'=>∃s5 s6 s7 s8,σ=[some (.ref x),some (.int (m:Nat)),some (.ref ls),some (.ref lp),some (.ref ld),s5,s6,s7,s8]∧Same H3 H') (fun N hN=>?_) ?_
 ·refine⟨_,rfl,by decide,by decide,?_⟩
  refine z0E (z1m 0 2) (fun i σ H'=>∃s5 s6 s7 s8,σ=[some (.ref x),some (.int (m:Nat)),some (.ref ls),some (.ref lp),some (.ref ld),s5,s6,s7,s8]∧Same H3 H') ⟨_,_,_,_,rfl,Same.refl _⟩ (fun _ _ _ _ _=>trivial) ?_ ?_
  ·rintro i y σ H4' H4 hi ⟨s5,s6,s7,s8,rfl,g4⟩ ⟨rfl,rfl⟩
   have hA4:=hA.same (g3.trans g4)
   have elp4:=g4 _ _ elp
   have hD4:=hD.same g4
   refine z0w (fun σ H'=>∃r1,σ=[some (.ref x),some (.int (m:Nat)),some (.ref ls),some (.ref lp),some (.ref ld),some (.int (0+(i:Nat))),some (.ref r1),s7,s8]∧Same H4 H'∧H4 r1=none∧H' r1=some (.lst ((y2E m ts).map V.int))) (fun N hN=>?_) ?_
   ·refine⟨_,rfl,x,dx,_,rfl,hA4.hx,rfl,x,dx,st,m,as,ts,rfl,hA4,hW,fun r1 H5 hr1 g5 e5=>?_⟩
    rw[y5I hW.n4 hW.wl hW.nd] at e5
    exact hN _ _ ⟨r1,rfl,g5,hr1,e5⟩
   rintro σ H5 ⟨r1,rfl,g5,hr1,e1⟩
   have hA5:=hA4.same g5
   refine z0w (fun σ H'=>∃r2 xs dd,σ=[some (.ref x),some (.int (m:Nat)),some (.ref ls),some (.ref lp),some (.ref ld),some (.int (0+(i:Nat))),some (.ref r1),some (.ref r2),s8]∧Same H5 H'∧H5 r2=none∧H' r2=some (.lst xs)∧Each (LandPt H' m) dd xs∧(∀d∈dd,z2Y m 3 3 ts d)∧dd.map LandD.sg=sgN m ts ts.length) (fun N hN=>?_) ?_
   ·exact⟨_,rfl,x,dx,_,rfl,hA5.hx,rfl,x,dx,st,m,as,ts,rfl,hA5,hW,fun r2 xs dd H6 hr2 g6 e6 hE hG hsg=>hN _ _ ⟨r2,xs,dd,rfl,g6,hr2,e6,hE,hG,hsg⟩⟩
   rintro σ H6 ⟨r2,xs,dd,rfl,g6,hr2,e2,hE,hG,hsg⟩
   have hA6:=hA5.same g6
   refine z0w (fun σ H'=>∃r3 us,σ=[some (.ref x),some (.int (m:Nat)),some (.ref ls),some (.ref lp),some (.ref ld),some (.int (0+(i:Nat))),some (.ref r1),some (.ref r2),some (.ref r3)]∧Same H6 H'∧H6 r3=none∧H' r3=some (.lst us)∧Each (OutAt H' m ts) (sgN m ts ts.length) us) (fun N hN=>?_) ?_
   ·exact⟨_,rfl,x,dx,_,rfl,hA6.hx,rfl,x,dx,st,m,as,ts,rfl,hA6,hW,fun r3 us H7 hr3 g7 e7 hO=>hN _ _ ⟨r3,us,rfl,g7,hr3,e7,hO⟩⟩
   rintro σ H7 ⟨r3,us,rfl,g7,hr3,e3,hO⟩
   have g47:=g5.trans (g6.trans g7)
   refine z0w (fun σ H'=>σ=[some (.ref x),some (.int (m:Nat)),some (.ref ls),some (.ref lp),some (.ref ld),some (.int (0+(i:Nat))),some (.ref r1),some (.ref r2),some (.ref r3)]∧Same H7 H') (fun N hN=>?_) ?_
   ·refine⟨_,rfl,_,rfl,r1,lp,_,_,rfl,rfl,y3B ((g6.trans g7) _ _ e1),y3B (g47 _ _ elp4),z3f 8 _ _,_,rfl,?_⟩
    rw[(Dt.eqb_iff _ _).mpr rfl]
    refine z1I ?_
    refine⟨_,rfl,_,rfl,_,rfl,_,rfl,r2,ls,ld,bs,es,ts,xs,dd,m,rfl,g7 _ _ e2,hE.imp fun _ _ h=>LandPt.same h g7,hG,hsg,hD4.same g47,hW,fun H8 g8=>?_⟩
    refine⟨_,rfl,?_⟩
    exact z1I (hN _ _ ⟨rfl,g8⟩)
   rintro σ H8 ⟨rfl,g8⟩
   refine z0w (fun σ H'=>σ=[some (.ref x),some (.int (m:Nat)),some (.ref ls),some (.ref lp),some (.ref ld),some (.int (0+(i:Nat))),some (.ref r1),some (.ref r2),some (.ref r3)]∧Same H7 H') (fun N hN=>?_) ?_
   ·refine⟨_,rfl,_,rfl,_,rfl,_,rfl,r3,ls,ld,bs,es,ts,us,m,rfl,g8 _ _ e3,hO.imp fun _ _ h=>OutAt.same h g8,hD4.same (g47.trans g8),hW,fun H9 g9=>?_⟩
    refine⟨_,rfl,?_⟩
    exact z1I (hN _ _ ⟨rfl,g8.trans g9⟩)
   clear g8
   rintro σ H9 ⟨rfl,g9⟩
   have e1':=(g6.trans (g7.trans g9)) _ _ e1
   have e2':=(g7.trans g9) _ _ e2
   have e3':=g9 _ _ e3
   have n12:r1≠r2:=z0h e1 hr2
   have n13:r1≠r3:=z0h (g6 _ _ e1) hr3
   have n23:r2≠r3:=z0h e2 hr3
   have z2:H4 r2=none:=z4v g5 hr2
   have z3:H4 r3=none:=z4v (g5.trans g6) hr3
   have g49:=g47.trans g9
   have hx16:xs.length≤16:=by rw[←hE.length,←q0a (f:=LandD.sg),hsg];exact z7g hW
   have hu16:us.length≤16:=by rw[←hO.length];exact z7g hW
   have hx0:xs≠[]:=fun z=>hne (by rw[←hsg];have:=hE.length;rw[z] at this;rw[List.eq_nil_of_length_eq_zero this];rfl)
   refine⟨_,rfl,.inl ⟨rfl,_,SqL.of e1'⟩,r1,_,_,rfl,rfl,e1',z2n (by rw[List.length_map];unfold y2E;rw[List.length_map,List.length_range];lia),?_⟩
   refine⟨_,rfl,.inl ⟨rfl,_,SqL.of (by rw[z0l n12.symm];exact e2')⟩,r2,xs,xs.getLast hx0,rfl,rfl,by rw[z0l n12.symm];exact e2',List.getLast?_eq_getElem?▸List.getLast?_eq_some_getLast hx0,?_⟩
   refine⟨_,rfl,.inl ⟨rfl,_,SqL.of (by rw[z0l n23.symm,z0l n13.symm];exact e3')⟩,r3,us,_,rfl,rfl,by rw[z0l n23.symm,z0l n13.symm];exact e3',z2n (by lia),?_⟩
   refine⟨_,_,_,_,rfl,fun b o e=>?_⟩
   have e4:=g4 _ _ e
   rw[z0l (z0h e4 z3),z0l (z0h e4 z2),z0l (z0h e4 hr1)]
   exact g49 _ _ e4
  ·rintro σ H4 ⟨s5,s6,s7,s8,rfl,g4⟩
   exact hN _ _ ⟨_,_,_,_,rfl,g4⟩
 rintro σ H4 ⟨s5,s6,s7,s8,rfl,g4⟩
 exact q _ (g3.trans g4)
end
end L2
namespace L2
open PySem PySem.Spec PyProof.Rows
section
open Fr Wl Rk Pt Ld
open Builtin.Int (intBits)
variable {P:Program}{w:World}{K:PySem.W.Frag}{mg:Str→Option Value}{base:Heap}{f:Addr}{fd:FuncData}{C fP fT fW fY fL fO:Addr}{fdP:FuncData}
theorem z5k {g:Int} (hg:0<g):∀d:List Int,z0N (d.map fun n=>g*n)=g*z0N d
 |[]=>by show (0:Int)=g*0;lia
 |n::d=>by
  show (if g*n=0 then z0N (d.map fun n=>g*n) else g*n)=g*(if n=0 then z0N d else n)
  by_cases h:n=0
  ·rw[if_pos (by rw[h];lia),if_pos h,z5k hg d]
  ·rw[if_neg (q0X (by lia) h),if_neg h]
theorem z7c {g:Nat}:∀(d:List Int) (z:Nat),(d.map fun n=>(g:Int)*n).foldl (fun (h:Nat) n=>Int.gcd (h:Int) n) (g*z)=g*d.foldl (fun (h:Nat) n=>Int.gcd (h:Int) n) z
 |[],z=>rfl
 |n::d,z=>by
  rw[q0u,q1G,q1G,Int.natCast_mul,Int.gcd_mul_left,Int.natAbs_natCast,z7c d]
theorem y3R {g:Nat} (hg:0<g) (d:List Int):byL (d.map fun n=>(g:Int)*n)=g*byL d:=by
 have e:z1J (d.map fun n=>(g:Int)*n)=g*z1J d:=z7c d 0
 unfold byL
 rw[z5k (by lia),e]
 by_cases h:z0N d<0
 ·rw[if_pos h,if_pos (q1D (by lia) h),Int.natCast_mul,Int.mul_neg]
 ·rw[if_neg h,if_neg (by have:=q0U (show (0:Int)≤(g:Int) by lia) (show 0≤z0N d by lia);lia),Int.natCast_mul]
theorem z7N {g:Nat} (hg:0<g) (d:List Int):z0n (d.map fun n=>(g:Int)*n)=z0n d:=by
 unfold z0n
 rw[y3R hg,q0C]
 refine q1w fun n _=>?_
 exact Int.mul_fdiv_mul_of_pos _ _ (by lia)
theorem z7E {m g:Nat}{t:List Int} (h:WL m t) (g0:0<g):∃ns last,(t.map fun n=>(g:Int)*n)=ns++[last]∧∃n∈ns,n≠0:=by
 have hl:(t.map fun n=>(g:Int)*n).length =m+1:=by rw[q0a,h.len]
 have hne:(t.map fun n=>(g:Int)*n)≠[]:=fun z=>by rw[z] at hl;cases hl
 refine⟨_,_,(q0y hne).symm,?_⟩
 obtain⟨j,hj,hv⟩:=h.way
 have hjd:j<(t.map fun n=>(g:Int)*n).dropLast.length :=by rw[q1a,hl];lia
 have ht:j<t.length:=by rw[h.len];lia
 refine⟨_,q0A hjd,?_⟩
 rw[List.getElem_dropLast,List.getElem_map]
 have ev:v t j=t[j]:=by show t.getD j 0=_;rw[q0b,q0c ht];rfl
 rw[←ev]
 exact q0X (by lia) hv
theorem TsA.keep {H H':Hp}{as:List Addr}{ts:List (List Int)} (h:TsA H as ts) (g:∀(b:Addr) (t:List Int),H b=some (.tup (t.map V.int))→H' b=some (.tup (t.map V.int))):TsA H' as ts:=⟨h.1,fun i a t e1 e2=>g _ _ (h.2 i a t e1 e2)⟩
structure HB (C:Addr) (H:Hp) (x dx st ls:Addr) (m:Nat) (ts:List (List Int)):Prop where
 ne:st≠ls
 h:∃as,HA C H x dx st m as ts
 l:∃bs,H ls=some (.lst (bs.map V.ref))∧TsA H bs ts
 w:Wls m ts
def mulV (g:Nat):V→V
 | .int n=> .int ((g:Int)*n)
 |u=>u
abbrev z7J:Stmt:=top 66
theorem y2R:z0q ["_law_hall","_law_ways","_law_shuts","_law_one","_law_by"] ["_law_hall","_law_ways","_law_shuts","_law_one","_law_by"] (z0i z7J):=⟨rfl,rfl,rfl,by decide+kernel,rfl,by decide+kernel,by decide+kernel⟩
def y0y (K:PySem.W.Frag) (C:Addr):Sp:=fun vs H Q _=>∃(x dx st ls r:Addr) (m g:Nat) (ts:List (List Int)) (t:List Int),vs=[.ref x,.int (m:Nat),.ref ls,.ref r,.int (g:Nat)]∧HB C H x dx st ls m ts∧H r=some (.tup (t.map V.int))∧0<g∧g≤2∧Wls m (ts++[t])∧∀H',(∀b o,b≠st→b≠ls→H b=some o→H' b=some o)→HB C H' x dx st ls m (ts++[t])→Q (.bl true) H'
theorem y3l (T:Txt mg) (hl:Hl K mg C fP fT fW fY fL fO) (F:Fun K "_law_put" "_law_put" z7J f fd) (Fput:FnOk P w K mg base CX0 22 fP fdP ["self","numbers"] (y6b K C)) (bput:Binds K fdP ["self","numbers"] []) (c_l_fits:Cal P w K mg base 22 "_law_fits" ["_law_hall","_law_ways","_law_shuts"] (z8C K C)):FnOk P w K mg base CX0 23 f fd ["_law_hall","_law_ways","_law_shuts","_law_one","_law_by"] (y0y K C):=by
 refine F.ok y2R (fun vs H Q E h=>?_) (fun cdv A outer s H vs Q E hr h=>?_)
 ·obtain⟨_,_,_,_,_,_,_,_,_,rfl,_⟩:=h;rfl
 obtain⟨x,dx,st,ls,r,m,g,ts,t,rfl,hB,hrt,g0,g2,hW,q⟩:=h
 obtain⟨as,hA⟩:=hB.h
 obtain⟨bs,hls,hbs⟩:=hB.l
 have n4:=hB.w.n4
 have wt:WL m t:=hW.wl t (by simp)
 have bt:=hW.bd t (by simp)
 have m3:=hW.m3
 have tl:=wt.len
 refine⟨_,(z0b (z1o (y1i (pv 0) hl.cl hl.mput Fput hr bput .nil z3H (z0a (z0L (Nc:=["_law_part","_law_by"]) (fr:=[none,some 4]) rfl (z4p (K:=K) rfl (pv 3)) rfl (by decide) rfl (by decide) rfl ⟨rfl,trivial⟩ ⟨⟨rfl,rfl,rfl,rfl⟩,trivial⟩ (fun _ _ _ _=>(z0k (i:=0) (show List.Nodup (["_law_part","_law_by"]:List Str) from by decide) rfl (Or.inl rfl))) (fun _ _ _ _=>z0K) (fun _ _ _ _=>(z0v z0I (pv 1) (pv 0)))) z0c)))
  (z0b (z1o (z4q PySem.F.plainAttrs_list PySem.F.slot_list_append PySem.F.type_list_append z1j (pv 2) (z0a (pv 3) z0c)))
  (z0e (z0o (z0m c_l_fits hr rfl (z0a (pv 0) (z0a (pv 1) (z0a (pv 2) z0c)))))))),?_⟩
 refine z0w (fun σ H'=>∃as',σ=[some (.ref x),some (.int (m:Nat)),some (.ref ls),some (.ref r),some (.int (g:Nat))]∧(∀b o,b≠st→H b=some o→H' b=some o)∧HA C H' x dx st m as' (ts++[t])) (fun N hN=>?_) ?_
 ·refine⟨_,rfl,x,dx,_,rfl,hA.hx,rfl,_,rfl,r,rfl,⟨_,SqT.of hrt⟩,fun D hD=>?_⟩
  refine z1k rfl (z2H K r (t.map V.int)) hD (fun _=>true) (mulV g) (fun H' g'=>SqT.of (g' _ _ hrt)) (z0j (by rw[q0a];lia)) (fun u _ Hc _ S h=>h) ?_ ?_
  ·intro u hu _ Hc _ S h
   obtain⟨n,hn,rfl⟩:=q0g.mp hu
   have:=bt n hn
   exact⟨_,rfl,_,rfl,_,_,rfl,rfl,z1u (z2r (by lia) (by lia)) (bt n hn),h⟩
  have em:(t.map V.int).map (mulV g)=(t.map fun n=>(g:Int)*n).map V.int:=by rw[q0C,q0C];rfl
  rw[z0C,em]
  obtain⟨ns,last,e1,hn⟩:=z7E wt g0
  have pe:z0n (t.map fun n=>(g:Int)*n)=t:=by rw[z7N g0,wt.pl]
  have gD:=z0f hD (.lst ((t.map fun n=>(g:Int)*n).map V.int))
  refine⟨x,dx,st,D,(m:Nat),as,ts,ns,last,rfl,gD _ _ hA.hx,gD _ _ hA.hst,hA.rows.same gD,by lia,by rw[←e1];exact z0d,by rw[←e1,q0a];lia,?_,hn,by rw[←e1,pe];exact fun z=>List.nodup_append.mp hW.nd |>.2.2 t z t (by simp) rfl,fun p H1 g1 hp=>?_⟩
  ·rw[←e1]
   intro n hn
   obtain⟨n',hn',rfl⟩:=q0g.mp hn
   exact q0p (intBits_mul_le (m:=64) (n:=3) (z2r (by lia) (by lia)) (bt n' hn')) (by lia)
  rw[←e1,pe] at hp
  have gH:=gD.trans g1
  have hx1:=gH _ _ hA.hx
  have hs1:=gH _ _ hA.hst
  have nx:x≠st:=fun z=>by rw[z,hs1] at hx1;cases hx1
  refine hN _ _ ⟨as++[p],rfl,fun b o hb e=>by rw[z0l hb];exact gH _ _ e,by rw[z0l nx];exact hx1,z0d,?_⟩
  exact ((hA.rows.same gH).snoc hp).keep fun b u e=>by rw[z0l (fun z=>by rw[z,hs1] at e;cases e)];exact e
 rintro σ H1 ⟨as',rfl,k1,hA1⟩
 have hls1:=k1 _ _ hB.ne.symm hls
 have hst0:=hA.hst
 have hbs1:TsA H1 bs ts:=hbs.keep fun b u e=>k1 _ _ (fun z=>by rw[z,hst0] at e;cases e) e
 have hrt1:=k1 _ _ (fun z=>by rw[z,hst0] at hrt;cases hrt) hrt
 have b4:bs.length≤4:=by rw[hbs.1];exact n4
 refine⟨_,rfl,.inl ⟨rfl,_,SqL.of hls1⟩,_,rfl,ls,_,_,rfl,rfl,hls1,z2n (by rw[q0a];lia),?_⟩
 have eb:bs.map V.ref++[V.ref r]=(bs++[r]).map V.ref:=by rw[q0x];rfl
 rw[eb]
 have hst1:=hA1.hst
 have hx1:=hA1.hx
 have ku:∀b o,b≠ls→H1 b=some o→upd H1 ls (.lst ((bs++[r]).map V.ref)) b=some o:=fun b o hb e=>by rw[z0l hb];exact e
 have hA2:HA C (upd H1 ls (.lst ((bs++[r]).map V.ref))) x dx st m as' (ts++[t]):=⟨ku _ _ (fun z=>by rw[z,hls1] at hx1;cases hx1) hx1,ku _ _ hB.ne hst1,hA1.rows.keep fun b u e=>ku _ _ (fun z=>by rw[z,hls1] at e;cases e) e⟩
 have hb2:TsA (upd H1 ls (.lst ((bs++[r]).map V.ref))) (bs++[r]) (ts++[t]):=(hbs1.snoc hrt1).keep fun b u e=>ku _ _ (fun z=>by rw[z,hls1] at e;cases e) e
 have hk:∀b o,b≠st→b≠ls→H b=some o→upd H1 ls (.lst ((bs++[r]).map V.ref)) b=some o:=fun b o h1 h2 e=>ku _ _ h2 (k1 _ _ h1 e)
 have hl2:upd H1 ls (.lst ((bs++[r]).map V.ref)) ls=some (.lst ((bs++[r]).map V.ref)):=z0d
 generalize upd H1 ls (.lst ((bs++[r]).map V.ref))=H2 at*
 refine⟨_,rfl,_,rfl,_,rfl,x,dx,st,ls,m,as',bs++[r],ts++[t],rfl,hA2,hl2,hb2,hW,fun H' g'=>?_⟩
 exact q H' (fun b o h1 h2 e=>g' _ _ (hk b o h1 h2 e)) ⟨hB.ne,⟨as',hA2.same g'⟩,⟨_,g' _ _ hl2,hb2.same g'⟩,hW⟩
end
end L2
namespace L2
open PySem PySem.Spec PyProof.Rows
section
open Fr Wl Rk Pt Ld
open Builtin.Int (intBits)
variable {P:Program}{w:World}{K:PySem.W.Frag}{mg:Str→Option Value}{base:Heap}{f:Addr}{fd:FuncData}{C fP fT fW fY fL fO:Addr}{fdT fdW:FuncData}
def Off (K:PySem.W.Frag) (a:Addr) (xs:List V) (st ls:Addr):Prop:=(∀H',SqL K H' a xs)∨(a≠st∧a≠ls)
theorem Off.keep {a:Addr}{xs:List V}{st ls:Addr} (f:Off K a xs st ls) {H H':Hp} (h:SqL K H a xs) (k:∀b o,b≠st→b≠ls→H b=some o→H' b=some o):SqL K H' a xs:=by
 rcases f with f|⟨n1,n2⟩
 ·exact f _
 ·rcases h with (h|⟨o,h⟩)|h
  ·exact .inl (.inl (k _ _ n1 n2 h))
  ·exact .inl (.inr ⟨o,k _ _ n1 n2 h⟩)
  ·exact .inr h
theorem z9Z {n j:Nat} (h:j<n):(List.range n).filter (fun i=>decide (i=j))=[j]:=by
 induction n with
 |zero=>lia
 |succ n ih=>
  rw[List.range_succ,q0W]
  by_cases e:j=n
  ·subst e
   have:(List.range j).filter (fun i=>decide (i=j))=[]:=List.filter_eq_nil_iff.mpr fun a ha=>by have:=List.mem_range.mp ha;simp;lia
   rw[this];simp
  ·rw[ih (by lia)]
   have:[n].filter (fun i=>decide (i=j))=[]:=List.filter_eq_nil_iff.mpr fun a ha=>by simp at ha;simp;lia
   rw[this];rfl
theorem TsA.erase {H:Hp}{as:List Addr}{ts:List (List Int)} (h:TsA H as ts) (j:Nat):TsA H (as.eraseIdx j) (ts.eraseIdx j):=by
 refine⟨?_,fun i a t e1 e2=>?_⟩
 ·rw[List.length_eraseIdx,List.length_eraseIdx,h.1]
 ·rw[List.getElem?_eraseIdx] at e1 e2
  by_cases c:i<j
  ·rw[if_pos c] at e1 e2
   exact h.2 _ _ _ e1 e2
  ·rw[if_neg c] at e1 e2
   exact h.2 _ _ _ e1 e2
theorem Wls.erase {m:Nat}{ts:List (List Int)} (h:Wls m ts) (j:Nat):Wls m (ts.eraseIdx j):=
 ⟨h.m3,q0p (List.length_eraseIdx_le _ _) h.n4,fun t ht=>h.wl t (List.mem_of_mem_eraseIdx ht),h.nd.sublist (List.eraseIdx_sublist _ _),fun t ht=>h.bd t (List.mem_of_mem_eraseIdx ht)⟩
theorem z5h {α:Type}:∀(l:List α) (j:Nat) (h:j<l.length),(l.eraseIdx j++[l[j]]).Perm l
 |[],_,h=>absurd h (Nat.not_lt_zero _)
 |a::l,0,_=>List.perm_append_comm (l₁:=l) (l₂:=[a])
 |a::l,j+1,h=>(z5h l j (Nat.lt_of_succ_lt_succ h)).cons a
theorem Wls.again {m:Nat}{ts:List (List Int)} (h:Wls m ts) {j:Nat} (hj:j<ts.length):Wls m (ts.eraseIdx j++[ts[j]]):=by
 have p:=z5h ts j hj
 exact⟨h.m3,by rw[p.length_eq];exact h.n4,fun t ht=>h.wl t (p.mem_iff.mp ht),p.nodup_iff.mpr h.nd,fun t ht=>h.bd t (p.mem_iff.mp ht)⟩
theorem HB.same {H H':Hp}{x dx st ls:Addr}{m:Nat}{ts:List (List Int)} (h:HB C H x dx st ls m ts) (g:Same H H'):HB C H' x dx st ls m ts:=
 ⟨h.ne,let ⟨as,a⟩:=h.h;⟨as,a.same g⟩,let ⟨bs,a,b⟩:=h.l;⟨bs,g _ _ a,b.same g⟩,h.w⟩
abbrev z4i:Stmt:=top 67
theorem sc_l_again:z0q ["_law_script","_law_start","_law_hall","_law_ways","_law_shuts","_law_one","_law_gone"] ["_law_script","_law_start","_law_hall","_law_ways","_law_shuts"] (z0i z4i):=⟨rfl,rfl,rfl,by decide+kernel,rfl,by decide+kernel,by decide+kernel⟩
def y0K (K:PySem.W.Frag) (C:Addr):Sp:=fun vs H Q _=>∃(a x dx st ls:Addr) (m:Nat) (s:Int) (ss:List Int) (ts:List (List Int)),vs=[.ref a,.int s,.ref x,.int (m:Nat),.ref ls]∧SqL K H a (ss.map V.int)∧Off K a (ss.map V.int) st ls∧ss.length≤63∧0≤s∧s≤1000∧HB C H x dx st ls m ts∧∀H' ts',(∀b o,b≠st→b≠ls→H b=some o→H' b=some o)→HB C H' x dx st ls m ts'→Q (.bl true) H'
theorem z9H (T:Txt mg) (hl:Hl K mg C fP fT fW fY fL fO) (F:Fun K "_law_again" "_law_again" z4i f fd) (Fwalls:FnOk P w K mg base CX0 23 fW fdW ["self"] (z5z C)) (bwalls:Binds K fdW ["self"] []) (Ftake:FnOk P w K mg base CX0 23 fT fdT ["self","place"] (y0D C)) (btake:Binds K fdT ["self","place"] [])
 (c_l_mixed:Cal P w K mg base 23 "_law_mixed" ["_law_script","_law_k"] (z7y K)) (c_l_fits:Cal P w K mg base 23 "_law_fits" ["_law_hall","_law_ways","_law_shuts"] (z8C K C)) (c_l_put:Cal P w K mg base 23 "_law_put" ["_law_hall","_law_ways","_law_shuts","_law_one","_law_by"] (y0y K C)):FnOk P w K mg base CX0 24 f fd ["_law_script","_law_start","_law_hall","_law_ways","_law_shuts"] (y0K K C):=by
 refine F.ok sc_l_again (fun vs H Q E h=>?_) (fun cdv A outer s H vs Q E hr h=>?_)
 ·obtain⟨_,_,_,_,_,_,_,_,_,rfl,_⟩:=h;rfl
 obtain⟨a,x,dx,st,ls,m,z,ss,ts,rfl,hS,hO,h63,z0,z1,hB,q⟩:=h
 obtain⟨as,hA⟩:=hB.h
 obtain⟨bs,hls,hbs⟩:=hB.l
 have n4:=hB.w.n4
 have bl:bs.length=ts.length:=hbs.1
 have al:as.length=ts.length:=hA.rows.1
 refine⟨_,(z0b (z0J (z0A (y3g (K:=K) rfl hr.units) (pv 4) (z0O z0c) (z0F _)) (z0e (z0o z1r)) z0y)
  (z0b (z0p (i:=5) sc_l_again.nd rfl (Or.inr rfl) (z4q PySem.F.plainAttrs_list PySem.F.slot_list_pop PySem.F.type_list_pop z8T (pv 4) (z0a (z0v z0Z (z0m c_l_mixed hr rfl (z0a (pv 0) (z0a (pv 1) z0c))) (z0x (z0M (K:=K) rfl) rfl T.len PySem.boot_len (z0a (pv 4) z0c))) z0c)))
  (z0b (z0p (i:=6) sc_l_again.nd rfl (Or.inl rfl) (z0G (z0B (K:=K) rfl) (z0L (Nc:=["_law_k","_law_hall","_law_one"]) (fr:=[none,some 2,some 5]) rfl (z1y rfl T.range (z0a (z0x (z0M (K:=K) rfl) rfl T.len PySem.boot_len (z0a (z2l (pv 2) hl.cl hl.mwalls Fwalls hr bwalls .nil z3H) z0c)) z0c)) rfl (by decide) rfl (by decide) rfl ⟨rfl,⟨rfl,trivial⟩⟩ ⟨⟨rfl,rfl,rfl,rfl⟩,⟨⟨rfl,rfl,rfl,rfl⟩,trivial⟩⟩ (fun _ _ _ _=>(z0k (i:=0) (show List.Nodup (["_law_k","_law_hall","_law_one"]:List Str) from by decide) rfl (Or.inl rfl))) (fun _ _ _ _=>(z3t (z0A (y5a (K:=K) rfl hr.units) (z0G (z0B (K:=K) rfl) (z2l (pv 1) hl.cl hl.mwalls Fwalls hr bwalls .nil z3H) (pv 0) (fun _ _=>rfl)) (pv 2) (z0F _)))) (fun _ _ _ _=>(pv 0))) z0g (fun _ _=>rfl)))
  (z0b (z1o (y1i (pv 2) hl.cl hl.mtake Ftake hr btake .nil z3H (z0a (pv 6) z0c)))
  (z0b (z0J (z1e (z0W (z0m c_l_fits hr rfl (z0a (pv 2) (z0a (pv 3) (z0a (pv 4) z0c)))))) (z0e (z0o z1r)) z0y)
  (z0e (z0o (pe_or (z7P z7S (z0v z0Z (z0m c_l_mixed hr rfl (z0a (pv 0) (z0a (z0v z1s (pv 1) z0g) z0c))) z0g) z0g (z0F _)) (z8L (z0m c_l_put hr rfl (z0a (pv 2) (z0a (pv 3) (z0a (pv 4) (z0a (pv 5) (z0a z0g z0c))))))))))))))),?_⟩
 refine z0w (fun σ H'=>σ=[some (.ref a),some (.int z),some (.ref x),some (.int (m:Nat)),some (.ref ls),none,none]∧Same H H'∧0<ts.length) (fun N hN=>?_) ?_
 ·refine⟨_,rfl,q0S _,fun l hl0=>?_⟩
  have g1:=z0f hl0 (.lst [])
  have e1:upd H l (.lst []) l=some (.lst []):=z0d
  generalize upd H l (.lst [])=H1 at*
  refine⟨ls,l,_,rfl,rfl,SqL.of (g1 _ _ hls),SqL.of e1,_,rfl,?_⟩
  refine z3i (fun c=>?_) (fun c=>?_)
  ·exact q _ ts (fun b o _ _ e=>g1 _ _ e) (hB.same g1)
  ·refine hN _ _ ⟨rfl,g1,?_⟩
   cases bs with
   |nil=>exact absurd rfl c
   |cons b bs=>rw[←bl];exact Nat.succ_pos _
 rintro σ H1 ⟨rfl,g1,t0⟩
 replace hA:=hA.same g1
 replace hls:=g1 _ _ hls
 replace hbs:=hbs.same g1
 have hS1:=SqL.same g1 hS
 refine z0w (fun σ H'=>∃j b,σ=[some (.ref a),some (.int z),some (.ref x),some (.int (m:Nat)),some (.ref ls),some (.ref b),none]∧j<ts.length∧bs[j]? =some b∧H'=upd H1 ls (.lst ((bs.eraseIdx j).map V.ref))) (fun N hN=>?_) ?_
 ·refine⟨_,rfl,.inl ⟨rfl,_,SqL.of hls⟩,_,rfl,_,rfl,a,ss,z,rfl,hS1,h63,z0,by lia,fun r r0 r1=>?_⟩
  have hlen:(bs.map V.ref).length =ts.length:=by rw[q0a,bl]
  have c':(0:Int)<(((bs.map V.ref).length :Nat):Int):=by rw[hlen];lia
  obtain⟨j,hjr,hj⟩:∃j:Nat,r%(((bs.map V.ref).length :Nat):Int)=(j:Nat)∧j<ts.length:=by
   have h1:=Int.emod_nonneg r (by lia:(((bs.map V.ref).length :Nat):Int)≠0)
   have h2:=Int.emod_lt_of_pos r c'
   exact⟨(r%(((bs.map V.ref).length :Nat):Int)).toNat,by lia,by lia⟩
  refine⟨_,rfl,ls,_,rfl,.inl (SqL.of hls),_,_,rfl,rfl,c',?_⟩
  dsimp only
  rw[hjr]
  have hjb:j<bs.length:=by lia
  refine⟨ls,_,_,j,.ref bs[j],rfl,rfl,hls,by lia,by lia,?_,by rw[q0h,q0c hjb];rfl,?_⟩
  ·unfold seqIndex?
   rw[hlen]
   dsimp only
   have e1:(if (j:Int)<0 then (j:Int)+(ts.length:Int) else (j:Int))=(j:Int):=if_neg (by lia)
   rw[e1,decide_eq_true (show 0≤(j:Int) by lia),decide_eq_true (show (j:Int)<(ts.length:Int) by lia)]
   rfl
  ·have e:(bs.map V.ref).eraseIdx j=(bs.eraseIdx j).map V.ref:=z4w V.ref bs j
   rw[e]
   exact hN _ _ ⟨j,bs[j],rfl,hj,q0c hjb,rfl⟩
 rintro σ H2 ⟨j,b,rfl,hj,hb,e2⟩
 have k2:∀c o,c≠ls→H1 c=some o→H2 c=some o:=fun c o h e=>by rw[e2,z0l h];exact e
 have hbt:=hbs.2 j b _ hb (q0c hj)
 have hx1:=hA.hx
 have hls2:H2 ls=some (.lst ((bs.eraseIdx j).map V.ref)):=by rw[e2,z0d]
 have tk:∀(c:Addr) (u:List Int),H1 c=some (.tup (u.map V.int))→H2 c=some (.tup (u.map V.int)):=fun c u e=>k2 _ _ (fun z=>by rw[z,hls] at e;cases e) e
 have hA2:HA C H2 x dx st m as ts:=⟨k2 _ _ (fun z=>by rw[z,hls] at hx1;cases hx1) hx1,k2 _ _ hB.ne hA.hst,hA.rows.keep tk⟩
 have hbs2:TsA H2 (bs.eraseIdx j) (ts.eraseIdx j):=(hbs.erase j).keep tk
 have hbt2:=tk _ _ hbt
 have hk2:∀c o,c≠st→c≠ls→H c=some o→H2 c=some o:=fun c o _ h2 e=>k2 _ _ h2 (g1 _ _ e)
 clear e2 k2 tk hbt hx1
 refine z0w (fun σ H'=>σ=[some (.ref a),some (.int z),some (.ref x),some (.int (m:Nat)),some (.ref ls),some (.ref b),some (.int (j:Nat))]∧Same H2 H') (fun N hN=>?_) ?_
 ·refine⟨_,rfl,x,dx,_,rfl,hA2.hx,rfl,x,dx,st,(m:Nat),as,rfl,hA2.hx,hA2.hst,fun l hl0=>?_⟩
  have g3:=z0f hl0 (.lst (as.map V.ref))
  have e3:upd H2 l (.lst (as.map V.ref)) l=some (.lst (as.map V.ref)):=z0d
  generalize upd H2 l (.lst (as.map V.ref))=H3 at*
  have hlen:(as.map V.ref).length =ts.length:=by rw[q0a,al]
  refine⟨l,_,rfl,.inl (SqL.of e3),?_⟩
  rw[hlen]
  refine⟨_,rfl,by lia,by lia,fun D hD=>?_⟩
  have hA3:=hA2.same g3
  have hbt3:=g3 _ _ hbt2
  refine z0X (List.range ts.length) (by rw[z3L,List.length_range]) (z7M ts.length) hD (fun i σ=>σ.set 0 (some (.int (0+(i:Nat))))) (fun d e σ=>List.set_set ..) (fun i=>decide (i=j)) (fun _ i u=>u= .int (0+(i:Nat))) (fun _ _ _ _ _ _ h=>h) (fun _ _=>trivial) (z0j (by rw[z3L];lia)) ?_ ?_ ?_ ?_
  ·intro i y d hy hd σ H4 g4 S h
   have hi:i<ts.length:=by have:=(q0t.mp hy).1;rw[z3L] at this;exact this
   rw[y0Y hi] at hy
   rw[List.getElem?_range hi] at hd
   cases hy
   cases hd
   exact h
  ·intro i hi Hc gc S h
   have hi':=List.mem_range.mp hi
   have hAc:=hA3.same gc
   refine⟨_,rfl,x,dx,_,rfl,hAc.hx,rfl,x,dx,st,(m:Nat),as,rfl,hAc.hx,hAc.hst,fun l2 hl2=>?_⟩
   have g4:=z0f hl2 (.lst (as.map V.ref))
   have e4:upd Hc l2 (.lst (as.map V.ref)) l2=some (.lst (as.map V.ref)):=z0d
   generalize upd Hc l2 (.lst (as.map V.ref))=H4 at*
   have ia:i<as.length:=by lia
   refine⟨_,rfl,l2,_,_,_,rfl,rfl,SqL.of e4,(show atI (as.map V.ref) (0+(i:Nat))=some (.ref as[i]) from ?_),?_⟩
   ·rw[Int.zero_add]
    exact z2E (by rw[q0h,q0c ia];rfl)
   have ht4:=(hAc.rows.same g4).2 i _ _ (q0c ia) (q0c hi')
   refine⟨_,rfl,as[i],b,_,_,rfl,rfl,z9V ht4,z9V (g4 _ _ (gc _ _ hbt3)),y5e _ (q0G (q0A hi')),_,rfl,?_⟩
   rw[y5A,show decide (ts[i]=ts[j])=decide (i=j) from decide_eq_decide.mpr ⟨fun e=>(List.getElem?_inj hi' hB.w.nd).mp (by rw[q0c hi',q0c hj,e]),fun e=>by subst e;rfl⟩]
   exact h _ g4
  ·intro i hi _ Hc gc _ S h
   exact⟨_,rfl,h _ _ (Same.refl _) rfl⟩
  ·intro us H4 g4 hD4 he
   rw[z9Z hj] at he
   cases he with
   |cons a b=>
    cases b
    subst a
    refine⟨D,_,_,_,rfl,rfl,SqL.of hD4,(show atI [V.int (0+(j:Nat))] 0=some _ from rfl),hN _ _ ⟨by rw[Int.zero_add];rfl,g3.trans g4⟩⟩
 rintro σ H3 ⟨rfl,g3⟩
 have hA3:=hA2.same g3
 have hst3:=hA3.hst
 have hx3:=hA3.hx
 have hls3:=g3 _ _ hls2
 have tk:∀(c:Addr) (u:List Int),H3 c=some (.tup (u.map V.int))→upd H3 st (.lst ((as.eraseIdx j).map V.ref)) c=some (.tup (u.map V.int)):=fun c u e=>by rw[z0l (fun z=>by rw[z,hst3] at e;cases e)];exact e
 refine z0w (fun σ H'=>σ=[some (.ref a),some (.int z),some (.ref x),some (.int (m:Nat)),some (.ref ls),some (.ref b),some (.int (j:Nat))]∧HA C H' x dx st m (as.eraseIdx j) (ts.eraseIdx j)∧H' ls=some (.lst ((bs.eraseIdx j).map V.ref))∧TsA H' (bs.eraseIdx j) (ts.eraseIdx j)∧H' b=some (.tup (ts[j].map V.int))∧∀c o,c≠st→c≠ls→H c=some o→H' c=some o) (fun N hN=>?_) ?_
 ·refine⟨_,rfl,x,dx,_,rfl,hx3,rfl,_,rfl,x,dx,st,(m:Nat),j,as,rfl,hx3,hst3,by lia,by lia,?_⟩
  exact hN _ _ ⟨rfl,⟨by rw[z0l (fun z=>by rw[z,hst3] at hx3;cases hx3)];exact hx3,z0d,(hA3.rows.erase j).keep tk⟩,by rw[z0l hB.ne.symm];exact hls3,(hbs2.same g3).keep tk,tk _ _ (g3 _ _ hbt2),fun c o h1 h2 e=>by rw[z0l h1];exact g3 _ _ (hk2 c o h1 h2 e)⟩
 clear tk
 rintro σ H4 ⟨rfl,hA4,hls4,hbs4,hbt4,k4⟩
 refine z0w (fun σ H'=>σ=[some (.ref a),some (.int z),some (.ref x),some (.int (m:Nat)),some (.ref ls),some (.ref b),some (.int (j:Nat))]∧Same H4 H') (fun N hN=>?_) ?_
 ·refine⟨_,rfl,_,rfl,_,rfl,x,dx,st,ls,m,as.eraseIdx j,bs.eraseIdx j,ts.eraseIdx j,rfl,hA4,hls4,hbs4,hB.w.erase j,fun H5 g5=>?_⟩
  refine⟨_,rfl,?_⟩
  exact z1I (hN _ _ ⟨rfl,g5⟩)
 rintro σ H5 ⟨rfl,g5⟩
 have k5:∀c o,c≠st→c≠ls→H c=some o→H5 c=some o:=fun c o h1 h2 e=>g5 _ _ (k4 c o h1 h2 e)
 have hB5:HB C H5 x dx st ls m (ts.eraseIdx j):=⟨hB.ne,⟨_,hA4.same g5⟩,⟨_,g5 _ _ hls4,hbs4.same g5⟩,hB.w.erase j⟩
 refine⟨_,rfl,_,rfl,_,_,rfl,rfl,a,ss,z+1,rfl,hO.keep hS k5,h63,by lia,by lia,fun r r0 r1=>?_⟩
 refine⟨_,_,rfl,rfl,cm,rfl,_,rfl,?_⟩
 refine z3i (fun c=>?_) (fun c=>?_)
 ·exact q _ _ k5 hB5
 ·refine⟨_,rfl,_,rfl,_,rfl,_,rfl,x,dx,st,ls,b,m,2,ts.eraseIdx j,ts[j],rfl,hB5,g5 _ _ hbt4,by decide,by decide,hB.w.again hj,fun H6 k6 hB6=>?_⟩
  exact q _ _ (fun c o h1 h2 e=>k6 _ _ h1 h2 (k5 c o h1 h2 e)) hB6
end
end L2
namespace L2
open PySem PySem.Spec PyProof.Rows
section
open Fr Wl Rk Pt Ld
open Builtin.Int (intBits)
variable {P:Program}{w:World}{K:PySem.W.Frag}{mg:Str→Option Value}{base:Heap}{f:Addr}{fd:FuncData}{C fP fT fW fY fL fO fH:Addr}{fdH:FuncData}
theorem wl82 {m:Nat}{t:List Int} (h:∃rs:List Int,t=z0n rs∧(rs.length:Int)=(m:Int)+1∧(∃n∈rs.dropLast,n≠0)∧∀n∈rs,-3≤n∧n≤3):WL m t∧∀n∈t,intBits n≤3:=by
 obtain⟨rs,rfl,hl,⟨n,hn,n0⟩,hb⟩:=h
 have hnz:∃n∈rs,n≠0:=⟨n,(List.dropLast_sublist rs).subset hn,n0⟩
 have hpl:(z0n rs).length =m+1:=by rw[Rk.plain_len];lia
 refine⟨⟨hpl,z2k hnz,(z1K hpl).mp ?_⟩,y0f hnz fun x hx=>?_⟩
 ·rw[q1c]
  refine⟨n.fdiv (byL rs),?_,by simpa using fdiv_ne (z2D ((List.dropLast_sublist rs).subset hn)) n0⟩
  unfold z0n
  rw[←List.map_dropLast]
  exact q0G hn
 ·have h2:=hb x hx
  exact intBits_le_of_natAbs (y:=7) (by show _≤7;lia) (by decide)
theorem Wls.of {m:Nat}{ts:List (List Int)} (m3:m≤3) (n4:ts.length≤4) (nd:ts.Nodup) (h:∀t∈ts,∃rs:List Int,t=z0n rs∧(rs.length:Int)=(m:Int)+1∧(∃n∈rs.dropLast,n≠0)∧∀n∈rs,-3≤n∧n≤3):Wls m ts:=
 ⟨m3,n4,fun t ht=>(wl82 (h t ht)).1,nd,fun t ht=>(wl82 (h t ht)).2⟩
theorem Wls.take {m:Nat}{ts:List (List Int)} (h:Wls m ts) (k:Nat):Wls m (ts.take k):=
 ⟨h.m3,by rw[q0o];have:=h.n4;lia,fun t ht=>h.wl t (q1t ht),h.nd.sublist (List.take_sublist _ _),fun t ht=>h.bd t (q1t ht)⟩
abbrev two {α:Type} (a b:α):Nat→α
 |0=>a
 |_=>b
structure y7b (K:PySem.W.Frag) (a:Addr) (ss:List Int) (l1 sl:Addr) (fl s e:Nat→Addr):Prop where
 sc:∀i,i<2→Off K a (ss.map V.int) (s i) (e i)
 l:∀i,i<2→l1≠s i∧l1≠e i
 k:∀i,i<2→sl≠s i∧sl≠e i
 f:∀i,i<2→∀j,j<2→fl j≠s i∧fl j≠e i
 o:∀i,i<2→∀j,j<2→j≠i→(s j≠s i∧s j≠e i)∧e j≠s i∧e j≠e i
structure Two (K:PySem.W.Frag) (C a:Addr) (ss:List Int) (l1 tp sl:Addr) (fl s e x d:Nat→Addr) (m:Nat→Nat) (fa:Nat→List Addr) (ft us:Nat→List (List Int)) (H:Hp):Prop where
 hl:H l1=some (.lst [V.int (m 0:Nat),V.int (m 1:Nat)])
 ht:H tp=some (.tup [V.ref (x 0),V.ref (x 1)])
 hs:H sl=some (.lst [V.ref (e 0),V.ref (e 1)])
 hf:∀i,i<2→H (fl i)=some (.lst ((fa i).map V.ref))∧TsA H (fa i) (ft i)
 hh:∀i,i<2→HB C H (x i) (d i) (s i) (e i) (m i) (us i)
 hS:SqL K H a (ss.map V.int)
variable {a l1 tp sl:Addr}{fl s e x d:Nat→Addr}{m:Nat→Nat}{ss:List Int}{fa:Nat→List Addr}{ft us:Nat→List (List Int)}
theorem Two.same {H H':Hp} (t:Two K C a ss l1 tp sl fl s e x d m fa ft us H) (g:Same H H'):Two K C a ss l1 tp sl fl s e x d m fa ft us H':=
 ⟨g _ _ t.hl,g _ _ t.ht,g _ _ t.hs,fun i hi=>⟨g _ _ (t.hf i hi).1,(t.hf i hi).2.same g⟩,fun i hi=>(t.hh i hi).same g,SqL.same g t.hS⟩
theorem HB.keep {H H':Hp}{x dx st ls s2 l2:Addr}{m:Nat}{ts:List (List Int)}{xs ys:List V} (h:HB C H x dx st ls m ts) (e1:H s2=some (.lst xs)) (e2:H l2=some (.lst ys)) (n1:st≠s2∧st≠l2) (n2:ls≠s2∧ls≠l2)
 (g:∀b o,b≠s2→b≠l2→H b=some o→H' b=some o):HB C H' x dx st ls m ts:=by
 obtain⟨as,hA⟩:=h.h
 obtain⟨bs,hls,hbs⟩:=h.l
 have gt:∀(b:Addr) (t:List Int),H b=some (.tup (t.map V.int))→H' b=some (.tup (t.map V.int)):=fun b t e=>g b _ (fun z=>by rw[z,e1] at e;cases e) (fun z=>by rw[z,e2] at e;cases e) e
 have hx:=hA.hx
 exact⟨h.ne,⟨as,g _ _ (fun z=>by rw[z,e1] at hx;cases hx) (fun z=>by rw[z,e2] at hx;cases hx) hx,g _ _ n1.1 n1.2 hA.hst,hA.rows.keep gt⟩,⟨bs,g _ _ n2.1 n2.2 hls,hbs.keep gt⟩,h.w⟩
theorem Two.step {H H':Hp} (t:Two K C a ss l1 tp sl fl s e x d m fa ft us H) (p:y7b K a ss l1 sl fl s e) {i:Nat} (hi:i<2) {u:List (List Int)} (g:∀b o,b≠s i→b≠e i→H b=some o→H' b=some o) (h:HB C H' (x i) (d i) (s i) (e i) (m i) u):
 Two K C a ss l1 tp sl fl s e x d m fa ft (fun j=>if j=i then u else us j) H':=by
 obtain⟨as,hA⟩:=(t.hh i hi).h
 obtain⟨bs,hls,hbs⟩:=(t.hh i hi).l
 have hst:=hA.hst
 have gt:∀(b:Addr) (v:List V),H b=some (.tup v)→H' b=some (.tup v):=fun b t e=>g b _ (fun z=>by rw[z,hst] at e;cases e) (fun z=>by rw[z,hls] at e;cases e) e
 refine⟨g _ _ (p.l i hi).1 (p.l i hi).2 t.hl,gt _ _ t.ht,g _ _ (p.k i hi).1 (p.k i hi).2 t.hs,fun j hj=>⟨g _ _ (p.f i hi j hj).1 (p.f i hi j hj).2 (t.hf j hj).1,(t.hf j hj).2.keep fun b v=>gt b _⟩,fun j hj=>?_,(p.sc i hi).keep t.hS g⟩
 by_cases c:j=i
 ·subst c
  rw[if_pos rfl]
  exact h
 ·rw[if_neg c]
  exact (t.hh j hj).keep hst hls (p.o i hi j hj c).1 (p.o i hi j hj c).2 g
theorem y5E {xs:List V}{k:Nat}:z8i xs (some (0+(k:Int))) (some (0+(k:Int)+1))=(xs.drop k).take 1:=by
 have e1:HT.sIx xs.length 0 (some (0+(k:Int)))=min k xs.length:=by rw[Int.zero_add];exact HT.sIx_nat _ _ _
 have e2:HT.sIx xs.length xs.length (some (0+(k:Int)+1))=min (k+1) xs.length:=by rw[Int.zero_add];exact HT.sIx_nat _ _ (k+1)
 unfold z8i
 rw[e1,e2]
 by_cases h:k<xs.length
 ·rw[Nat.min_eq_left (by lia),Nat.min_eq_left (by lia),show k+1 - k=1 by lia]
 ·rw[Nat.min_eq_right (by lia),Nat.min_eq_right (by lia),q1n,List.take_zero,List.drop_eq_nil_of_le (by lia),List.take_nil]
theorem z3B {α:Type}{b:Nat→α}{g:α→V}{i:Nat} (hi:i<2):atI [g (b 0),g (b 1)] (0+(i:Nat))=some (g (b i)):=by
 rcases (by lia:i=0∨i=1) with rfl|rfl<;>rfl
theorem z7b {H:Hp}{x dx st:Addr}{m:Int} (hx:H x=none) (hd:H dx=none) (hn:dx≠x) (hst:upd (upd H dx (.own x)) x (.ins C dx []) st=none):
 Same H (upd (upd (upd (upd (upd H dx (.own x)) x (.ins C dx [])) x (.ins C dx [("ways",.int m)])) st (.lst [])) x (.ins C dx (hFs m st)))∧
 upd (upd (upd (upd (upd H dx (.own x)) x (.ins C dx [])) x (.ins C dx [("ways",.int m)])) st (.lst [])) x (.ins C dx (hFs m st)) x=some (.ins C dx (hFs m st))∧
 upd (upd (upd (upd (upd H dx (.own x)) x (.ins C dx [])) x (.ins C dx [("ways",.int m)])) st (.lst [])) x (.ins C dx (hFs m st)) st=some (.lst [])∧H st=none:=by
 have sx:st≠x:=fun z=>by rw[z,z0d] at hst;cases hst
 have sd:st≠dx:=fun z=>by rw[z,z0l hn,z0d] at hst;cases hst
 have s0:H st=none:=by rw[z0l sx,z0l sd] at hst;exact hst
 refine⟨fun b o e=>?_,z0d,by rw[z0l sx,z0d],s0⟩
 rw[z0l (z0h e hx),z0l (z0h e s0),z0l (z0h e hx),z0l (z0h e hx),z0l (z0h e hd)]
 exact e
abbrev z5M:Stmt:=top 68
theorem sc_law:z0q ["_law_script","_law_ways","_law_most","_law_first","_law_second","_law_halls","_law_standing","_law_k","_law_which","_law_shuts","_law_one"] ["_law_script"] (z0i z5M):=⟨rfl,rfl,rfl,by decide+kernel,rfl,by decide+kernel,by decide+kernel⟩
def y2L (K:PySem.W.Frag):Sp:=fun vs H Q _=>∃(a:Addr) (ns:List Int),vs=[.ref a]∧SqL K H a (ns.map V.int)∧ns.length≤63∧∀H',Q (.bl true) H'
theorem y6C (T:Txt mg) (hl:Hl K mg C fP fT fW fY fL fO) (hmk:Mk K C fH) (F:Fun K "law" "law" z5M f fd) (Fh:FnOk P w K mg base CX0 23 fH fdH ["self","ways"] (y0G C)) (bh:Binds K fdH ["self","ways"] []) (c_l_cell_at:Cal P w K mg base 24 "_law_cell_at" ["_law_script","_law_k"] (y0H K)) (c_l_fences:Cal P w K mg base 24 "_law_fences" ["_law_script","_law_start","_law_ways","_law_many"] (z8D K)) (c_l_put:Cal P w K mg base 24 "_law_put" ["_law_hall","_law_ways","_law_shuts","_law_one","_law_by"] (y0y K C)) (c_l_again:Cal P w K mg base 24 "_law_again" ["_law_script","_law_start","_law_hall","_law_ways","_law_shuts"] (y0K K C)) (c_l_fits:Cal P w K mg base 24 "_law_fits" ["_law_hall","_law_ways","_law_shuts"] (z8C K C)):FnOk P w K mg base CX0 25 f fd ["_law_script"] (y2L K):=by
 refine F.ok sc_law (fun vs H Q E h=>?_) (fun cdv A outer s H vs Q E hr h=>?_)
 ·obtain⟨_,_,rfl,_⟩:=h;rfl
 obtain⟨a,ss,rfl,hS,h63,q⟩:=h
 refine⟨_,(z0b (z0p (i:=1) sc_law.nd rfl (Or.inl rfl) (z0O (z0a (z0v z0Z (z0v z1v (z0m c_l_cell_at hr rfl (z0a (pv 0) (z0a z0g z0c))) z0g) z0g) (z0a (z0v z0Z (z0v z1v (z0m c_l_cell_at hr rfl (z0a (pv 0) (z0a z0g z0c))) z0g) z0g) z0c))))
  (z0b (z0p (i:=2) sc_law.nd rfl (Or.inl rfl) (z0G (z0B (K:=K) rfl) (z0O (z0a z0g (z0a z0g (z0a z0g (z0a z0g z0c))))) (z0G (z0B (K:=K) rfl) (pv 1) z0g (fun _ _=>rfl)) (fun _ _=>rfl)))
  (z0b (z0p (i:=3) sc_law.nd rfl (Or.inl rfl) (z0m c_l_fences hr rfl (z0a (pv 0) (z0a z0g (z0a (z0G (z0B (K:=K) rfl) (pv 1) z0g (fun _ _=>rfl)) (z0a (z0v z0Z (z0v z1v (z0m c_l_cell_at hr rfl (z0a (pv 0) (z0a z0g z0c))) z0g) (pv 2)) z0c))))))
  (z0b (z0p (i:=4) sc_law.nd rfl (Or.inl rfl) (z0m c_l_fences hr rfl (z0a (pv 0) (z0a z0g (z0a (z0G (z0B (K:=K) rfl) (pv 1) z0g (fun _ _=>rfl)) (z0a (z0v z0Z (z0v z1v (z0m c_l_cell_at hr rfl (z0a (pv 0) (z0a z0g z0c))) z0g) z0g) z0c))))))
  (z0b (z0p (i:=5) sc_law.nd rfl (Or.inl rfl) (z1P (z0a (y1j hmk Fh hr rfl hl.mg bh .nil z3H (z0a (z0G (z0B (K:=K) rfl) (pv 1) z0g (fun _ _=>rfl)) z0c)) (z0a (y1j hmk Fh hr rfl hl.mg bh .nil z3H (z0a (z0G (z0B (K:=K) rfl) (pv 1) z0g (fun _ _=>rfl)) z0c)) z0c))))
  (z0b (z0p (i:=6) sc_law.nd rfl (Or.inl rfl) (z0O (z0a (z0O z0c) (z0a (z0O z0c) z0c))))
  (z0b (z0T PassesOwn.never rfl (z1y rfl T.range (z0a z0g z0c)) (z0k (i:=7) sc_law.nd rfl (Or.inl rfl)) (z0e (z0T PassesOwn.never rfl (z1y rfl T.range (z0a z0g z0c)) (z0k (i:=8) sc_law.nd rfl (Or.inl rfl)) (z0b (z0p (i:=9) sc_law.nd rfl (Or.inl rfl) (z0G (z0B (K:=K) rfl) (pv 6) (pv 8) (fun _ _=>rfl)))
  (z0e (z0T PassesOwn.never rfl (z0D (K:=K) rfl (z0Y (z1n (K:=K) rfl) (z0G (z0B (K:=K) rfl) (z0O (z0a (pv 3) (z0a (pv 4) z0c))) (pv 8) (fun _ _=>rfl)) (z1f (pv 7)) (z1f (z0v z1s (pv 7) z0g)))) (z0k (i:=10) sc_law.nd rfl (Or.inl rfl)) (z0e (z0J (z1e (z0W (z0m c_l_put hr rfl (z0a (z0G (z0P (K:=K) rfl) (pv 5) (pv 8) (fun _ _=>rfl)) (z0a (z0G (z0B (K:=K) rfl) (pv 1) (pv 8) (fun _ _=>rfl)) (z0a (pv 9) (z0a (pv 10) (z0a z0g z0c)))))))) (z0e (z0o z1r)) z0y))))))))
  (z0b (z0T PassesOwn.never rfl (z1y rfl T.range (z0a z0g z0c)) (z0k (i:=8) sc_law.nd rfl (Or.inl rfl)) (z0b (z0p (i:=9) sc_law.nd rfl (Or.inl rfl) (z0G (z0B (K:=K) rfl) (pv 6) (pv 8) (fun _ _=>rfl)))
  (z0e (z0J (z1e (z0W (z0m c_l_again hr rfl (z0a (pv 0) (z0a (z0v z1s z0g (z0v z0I z0g (pv 8))) (z0a (z0G (z0P (K:=K) rfl) (pv 5) (pv 8) (fun _ _=>rfl)) (z0a (z0G (z0B (K:=K) rfl) (pv 1) (pv 8) (fun _ _=>rfl)) (z0a (pv 9) z0c)))))))) (z0e (z0o z1r)) z0y))))
  (z0b (z0T PassesOwn.never rfl (z0D (K:=K) rfl (z0O (z0a z0g (z0a z0g (z0a z0g z0c))))) (z0k (i:=8) sc_law.nd rfl (Or.inl rfl)) (z0e (z0J (z1e (z0W (z0m c_l_fits hr rfl (z0a (z0G (z0P (K:=K) rfl) (pv 5) (pv 8) (fun _ _=>rfl)) (z0a (z0G (z0B (K:=K) rfl) (pv 1) (pv 8) (fun _ _=>rfl)) (z0a (z0G (z0B (K:=K) rfl) (pv 6) (pv 8) (fun _ _=>rfl)) z0c)))))) (z0e (z0o z1r)) z0y)))
  (z0e (z0o z1r))))))))))),?_⟩
 refine z0w (fun σ H'=>∃(m0 m1:Nat) (l1:Addr),σ=[some (.ref a),some (.ref l1),none,none,none,none,none,none,none,none,none]∧Same H H'∧H' l1=some (.lst [V.int (m0:Nat),V.int (m1:Nat)])∧m0≤3∧m1≤2∧H l1=none) (fun N hN=>?_) ?_
 ·refine⟨_,rfl,a,ss,0,rfl,hS,by decide,_,_,rfl,rfl,cf,_,_,rfl,rfl,cm,_,rfl,a,ss,0,rfl,hS,by decide,_,_,rfl,rfl,cf,_,_,rfl,rfl,cm,?_⟩
  dsimp only
  obtain⟨m0,w0,q0⟩:∃m:Nat,ss.getD (0:Int).toNat 0/2%4=(m:Nat)∧m≤3:=⟨(ss.getD (0:Int).toNat 0/2%4).toNat,by lia,by lia⟩
  obtain⟨m1,w1,q1⟩:∃m:Nat,ss.getD (0:Int).toNat 0/8%3=(m:Nat)∧m≤2:=⟨(ss.getD (0:Int).toNat 0/8%3).toNat,by lia,by lia⟩
  rw[w0,w1]
  exact⟨z0j (by show 2≤_;decide),fun l1 hl1=>hN _ _ ⟨m0,m1,l1,rfl,z0f hl1 _,z0d,q0,q1,hl1⟩⟩
 rintro σ H1 ⟨m0,m1,l1,rfl,g1,el1,q0,q1,nl1⟩
 replace hS:=SqL.same g1 hS
 refine z0w (fun σ H'=>∃most:Int,σ=[some (.ref a),some (.ref l1),some (.int most),none,none,none,none,none,none,none,none]∧Same H1 H'∧1≤most∧most≤5) (fun N hN=>?_) ?_
 ·refine⟨z0j (by show 4≤_;decide),fun z hz=>?_⟩
  have g2:=z0f hz (.lst [V.int 1,V.int 5,V.int 5,V.int 4])
  have e2:upd H1 z (.lst [V.int 1,V.int 5,V.int 5,V.int 4]) z=some (.lst [V.int 1,V.int 5,V.int 5,V.int 4]):=z0d
  generalize upd H1 z (.lst [V.int 1,V.int 5,V.int 5,V.int 4])=H2 at*
  refine⟨_,rfl,l1,_,_,_,rfl,rfl,SqL.of (g2 _ _ el1),(show atI [V.int (m0:Nat),V.int (m1:Nat)] 0=some (.int (m0:Nat)) from rfl),?_⟩
  obtain⟨most,e3,b0,b1⟩:∃most:Int,atI [V.int 1,V.int 5,V.int 5,V.int 4] (m0:Nat)=some (.int most)∧1≤most∧most≤5:=by
   rcases (by lia:m0=0∨m0=1∨m0=2∨m0=3) with rfl|rfl|rfl|rfl
   ·exact⟨1,rfl,by decide,by decide⟩
   ·exact⟨5,rfl,by decide,by decide⟩
   ·exact⟨5,rfl,by decide,by decide⟩
   ·exact⟨4,rfl,by decide,by decide⟩
  exact⟨z,_,_,_,rfl,rfl,SqL.of e2,e3,hN _ _ ⟨most,rfl,g2,b0,b1⟩⟩
 clear g1
 rintro σ H2 ⟨most,rfl,g2,b0,b1⟩
 replace hS:=SqL.same g2 hS
 replace el1:=g2 _ _ el1
 clear g2
 refine z0w (fun σ H'=>∃f0 as0 ts0,σ=[some (.ref a),some (.ref l1),some (.int most),some (.ref f0),none,none,none,none,none,none,none]∧Same H2 H'∧H' f0=some (.lst (as0.map V.ref))∧TsA H' as0 ts0∧Wls m0 ts0) (fun N hN=>?_) ?_
 ·refine⟨_,rfl,_,rfl,l1,_,_,_,rfl,rfl,SqL.of el1,(show atI [V.int (m0:Nat),V.int (m1:Nat)] 0=some (.int (m0:Nat)) from rfl),_,rfl,a,ss,0,rfl,hS,by decide,_,_,rfl,rfl,cf,_,rfl,_,_,rfl,rfl,(show 0<most by lia),?_⟩
  have y0:=Int.emod_nonneg (ss.getD (0:Int).toNat 0/24) (by lia:most≠0)
  have y1:=Int.emod_lt_of_pos (ss.getD (0:Int).toNat 0/24) (by lia:0<most)
  refine⟨a,ss,3,(m0:Nat),_,rfl,hS,h63,by lia,by lia,by lia,by lia,y0,by lia,fun f0 as0 ts0 H3 hf0 hlen hnd hall g3 e3 hts=>?_⟩
  exact hN _ _ ⟨f0,as0,ts0,rfl,g3,e3,hts,Wls.of (by lia) (by lia) hnd hall⟩
 rintro σ H3 ⟨f0,as0,ts0,rfl,g3,ef0,hts0,hW0⟩
 replace hS:=SqL.same g3 hS
 replace el1:=g3 _ _ el1
 clear g3
 refine z0w (fun σ H'=>∃f1 as1 ts1,σ=[some (.ref a),some (.ref l1),some (.int most),some (.ref f0),some (.ref f1),none,none,none,none,none,none]∧Same H3 H'∧H' f1=some (.lst (as1.map V.ref))∧TsA H' as1 ts1∧Wls m1 ts1) (fun N hN=>?_) ?_
 ·refine⟨_,rfl,_,rfl,l1,_,_,_,rfl,rfl,SqL.of el1,(show atI [V.int (m0:Nat),V.int (m1:Nat)] 1=some (.int (m1:Nat)) from rfl),_,rfl,a,ss,0,rfl,hS,by decide,_,_,rfl,rfl,cf,_,_,rfl,rfl,cm,?_⟩
  refine⟨a,ss,40,(m1:Nat),_,rfl,hS,h63,by lia,by lia,by lia,by lia,by lia,by lia,fun f1 as1 ts1 H4 hf1 hlen hnd hall g4 e4 hts=>?_⟩
  exact hN _ _ ⟨f1,as1,ts1,rfl,g4,e4,hts,Wls.of (by lia) (by lia) hnd hall⟩
 rintro σ H4 ⟨f1,as1,ts1,rfl,g4,ef1,hts1,hW1⟩
 replace hS:=SqL.same g4 hS
 replace el1:=g4 _ _ el1
 replace ef0:=g4 _ _ ef0
 replace hts0:=hts0.same g4
 clear g4
 refine z0w (fun σ H'=>∃tp x0 d0 s0 x1 d1 s1,σ=[some (.ref a),some (.ref l1),some (.int most),some (.ref f0),some (.ref f1),some (.ref tp),none,none,none,none,none]∧Same H4 H'∧H' tp=some (.tup [V.ref x0,V.ref x1])∧H' x0=some (.ins C d0 (hFs (m0:Nat) s0))∧H' x1=some (.ins C d1 (hFs (m1:Nat) s1))∧H' s0=some (.lst [])∧H' s1=some (.lst [])∧H4 s0=none∧H4 s1=none∧s0≠s1) (fun N hN=>?_) ?_
 ·refine⟨_,rfl,l1,_,_,_,rfl,rfl,SqL.of el1,(show atI [V.int (m0:Nat),V.int (m1:Nat)] 0=some (.int (m0:Nat)) from rfl),fun x0 d0 hx0 hd0 hn0=>⟨x0,d0,(m0:Nat),rfl,z0d,fun s0 hs0=>⟨rfl,?_⟩⟩⟩
  obtain⟨g2,ex0,es0,ns0⟩:=z7b (C:=C) (m:=(m0:Nat)) hx0 hd0 hn0 hs0
  generalize upd (upd (upd (upd (upd H4 d0 (.own x0)) x0 (.ins C d0 [])) x0 (.ins C d0 [("ways",.int (m0:Nat))])) s0 (.lst [])) x0 (.ins C d0 (hFs (m0:Nat) s0))=H5 at*
  refine⟨_,rfl,l1,_,_,_,rfl,rfl,SqL.of (g2 _ _ el1),(show atI [V.int (m0:Nat),V.int (m1:Nat)] 1=some (.int (m1:Nat)) from rfl),fun x1 d1 hx1 hd1 hn1=>⟨x1,d1,(m1:Nat),rfl,z0d,fun s1 hs1=>⟨rfl,?_⟩⟩⟩
  obtain⟨g3,ex1,es1,ns1⟩:=z7b (C:=C) (m:=(m1:Nat)) hx1 hd1 hn1 hs1
  generalize upd (upd (upd (upd (upd H5 d1 (.own x1)) x1 (.ins C d1 [])) x1 (.ins C d1 [("ways",.int (m1:Nat))])) s1 (.lst [])) x1 (.ins C d1 (hFs (m1:Nat) s1))=H6 at*
  refine⟨by show 2≤sizeLine;decide,fun tp htp=>?_⟩
  have g4:=z0f htp (.tup [V.ref x0,V.ref x1])
  exact hN _ _ ⟨tp,x0,d0,s0,x1,d1,s1,rfl,g2.trans (g3.trans g4),z0d,(g3.trans g4) _ _ ex0,g4 _ _ ex1,(g3.trans g4) _ _ es0,g4 _ _ es1,ns0,z4v g2 ns1,z0h es0 ns1⟩
 rintro σ H5 ⟨tp,x0,d0,s0,x1,d1,s1,rfl,g5,etp,ex0,ex1,es0,es1,ns0,ns1,n01⟩
 have a1:=z0h el1 ns0
 have a2:=z0h el1 ns1
 have a3:=z0h ef0 ns0
 have a4:=z0h ef0 ns1
 have a5:=z0h ef1 ns0
 have a6:=z0h ef1 ns1
 have aS0:(∀H',SqL K H' a (ss.map V.int))∨(a≠s0∧a≠s1):=by
  rcases hS with (h|⟨o,h⟩)|h
  ·exact .inr ⟨z0h h ns0,z0h h ns1⟩
  ·exact .inr ⟨z0h h ns0,z0h h ns1⟩
  ·exact .inl fun _=> .inr h
 replace hS:=SqL.same g5 hS
 replace el1:=g5 _ _ el1
 replace ef0:=g5 _ _ ef0
 replace hts0:=hts0.same g5
 replace ef1:=g5 _ _ ef1
 replace hts1:=hts1.same g5
 clear g5 ns0 ns1
 refine z0w (fun σ H'=>∃sl e0 e1,σ=[some (.ref a),some (.ref l1),some (.int most),some (.ref f0),some (.ref f1),some (.ref tp),some (.ref sl),none,none,none,none]∧y7b K a ss l1 sl (two f0 f1) (two s0 s1) (two e0 e1)∧Two K C a ss l1 tp sl (two f0 f1) (two s0 s1) (two e0 e1) (two x0 x1) (two d0 d1) (two m0 m1) (two as0 as1) (two ts0 ts1) (fun _=>[]) H') (fun N hN=>?_) ?_
 ·refine⟨q0S _,fun e0 he0=>⟨q0S _,fun e1 he1=>⟨z0j (by show 2≤_;decide),fun sl hsl=>?_⟩⟩⟩
  have g6:=z0f he0 (.lst [])
  have e6:upd H5 e0 (.lst []) e0=some (.lst []):=z0d
  generalize upd H5 e0 (.lst [])=H6 at*
  have g7:=z0f he1 (.lst [])
  have e7:upd H6 e1 (.lst []) e1=some (.lst []):=z0d
  generalize upd H6 e1 (.lst [])=H7 at*
  have g8:=z0f hsl (.lst [V.ref e0,V.ref e1])
  have e8:upd H7 sl (.lst [V.ref e0,V.ref e1]) sl=some (.lst [V.ref e0,V.ref e1]):=z0d
  generalize upd H7 sl (.lst [V.ref e0,V.ref e1])=H8 at*
  have ne0:∀{b:Addr}{o:HO},H5 b=some o→b≠e0∧b≠e1∧b≠sl:=fun h=>⟨z0h h he0,z0h (g6 _ _ h) he1,z0h ((g6.trans g7) _ _ h) hsl⟩
  have n1:=z0h e6 he1
  have n2:=z0h (g7 _ _ e6) hsl
  have n3:=z0h e7 hsl
  have gg:=g6.trans (g7.trans g8)
  have aS:∀i,i<2→Off K a (ss.map V.int) (two s0 s1 i) (two e0 e1 i):=fun i hi=>by
   rcases aS0 with h|⟨h1,h2⟩
   ·exact .inl h
   ·rcases hS with (h|⟨o,h⟩)|h
    ·rcases (by lia:i=0∨i=1) with rfl|rfl
     ·exact .inr ⟨h1,(ne0 h).1⟩
     ·exact .inr ⟨h2,(ne0 h).2.1⟩
    ·rcases (by lia:i=0∨i=1) with rfl|rfl
     ·exact .inr ⟨h1,(ne0 h).1⟩
     ·exact .inr ⟨h2,(ne0 h).2.1⟩
    ·exact .inl fun _=> .inr h
  have z2:∀{R:Nat→Prop},R 0→R 1→∀i,i<2→R i:=fun h0 h1 i hi=>by
   rcases (by lia:i=0∨i=1) with rfl|rfl
   ·exact h0
   ·exact h1
  refine hN _ _ ⟨sl,e0,e1,rfl,⟨aS,?_,?_,?_,?_⟩,⟨gg _ _ el1,gg _ _ etp,e8,?_,?_,SqL.same gg hS⟩⟩
  ·exact z2 ⟨a1,(ne0 el1).1⟩ ⟨a2,(ne0 el1).2.1⟩
  ·exact z2 ⟨(ne0 es0).2.2.symm,n2.symm⟩ ⟨(ne0 es1).2.2.symm,n3.symm⟩
  ·exact z2 (z2 ⟨a3,(ne0 ef0).1⟩ ⟨a5,(ne0 ef1).1⟩) (z2 ⟨a4,(ne0 ef0).2.1⟩ ⟨a6,(ne0 ef1).2.1⟩)
  ·exact z2 (z2 (fun z=>absurd rfl z) fun _=>⟨⟨n01.symm,(ne0 es1).1⟩,(ne0 es0).2.1.symm,n1.symm⟩) (z2 (fun _=>⟨⟨n01,(ne0 es0).2.1⟩,(ne0 es1).1.symm,n1⟩) fun z=>absurd rfl z)
  ·exact z2 ⟨gg _ _ ef0,hts0.same gg⟩ ⟨gg _ _ ef1,hts1.same gg⟩
  ·exact z2 ⟨(ne0 es0).1,⟨[],gg _ _ ex0,gg _ _ es0,.nil⟩,⟨[],(g7.trans g8) _ _ e6,.nil⟩,hW0.take 0⟩ ⟨(ne0 es1).2.1,⟨[],gg _ _ ex1,gg _ _ es1,.nil⟩,⟨[],g8 _ _ e7,.nil⟩,hW1.take 0⟩
 have hft:∀i,i<2→Wls (two m0 m1 i) (two ts0 ts1 i):=fun i hi=>by
  rcases (by lia:i=0∨i=1) with rfl|rfl
  ·exact hW0
  ·exact hW1
 clear hS el1 ef0 hts0 ef1 hts1 etp ex0 ex1 es0 es1 aS0 a1 a2 a3 a4 a5 a6 n01
 rintro σ H6 ⟨sl,e0,e1,rfl,ap,t6⟩
 have atm:∀i,i<2→atI [V.int (two m0 m1 0:Nat),V.int (two m0 m1 1:Nat)] (0+(i:Nat))=some (V.int (two m0 m1 i:Nat)):=fun i hi=>z3B (b:=two m0 m1) (g:=fun n:Nat=>V.int (n:Nat)) hi
 refine z0w (fun σ H'=>∃s7 s8 s9 s10 us,σ=[some (.ref a),some (.ref l1),some (.int most),some (.ref f0),some (.ref f1),some (.ref tp),some (.ref sl),s7,s8,s9,s10]∧Two K C a ss l1 tp sl (two f0 f1) (two s0 s1) (two e0 e1) (two x0 x1) (two d0 d1) (two m0 m1) (two as0 as1) (two ts0 ts1) us H') (fun N hN=>?_) ?_
 ·refine⟨_,rfl,by decide,by decide,?_⟩
  refine z0E (z1m 0 4) (fun k σ H'=>∃s7 s8 s9 s10 us,σ=[some (.ref a),some (.ref l1),some (.int most),some (.ref f0),some (.ref f1),some (.ref tp),some (.ref sl),s7,s8,s9,s10]∧Two K C a ss l1 tp sl (two f0 f1) (two s0 s1) (two e0 e1) (two x0 x1) (two d0 d1) (two m0 m1) (two as0 as1) (two ts0 ts1) us H'∧∀j,j<2→us j=(two ts0 ts1 j).take k) ⟨_,_,_,_,_,rfl,t6,fun j _=>rfl⟩ (fun _ _ _ _ _=>trivial) ?_ ?_
  ·rintro k y σ H7' H7 hk ⟨s7,s8,s9,s10,us,rfl,t7,hu7⟩ ⟨rfl,rfl⟩
   refine⟨_,rfl,by decide,by decide,?_⟩
   refine z0E (z1m 0 2) (fun i σ H'=>∃s8 s9 s10 us,σ=[some (.ref a),some (.ref l1),some (.int most),some (.ref f0),some (.ref f1),some (.ref tp),some (.ref sl),some (.int (0+(k:Nat))),s8,s9,s10]∧Two K C a ss l1 tp sl (two f0 f1) (two s0 s1) (two e0 e1) (two x0 x1) (two d0 d1) (two m0 m1) (two as0 as1) (two ts0 ts1) us H'∧∀j,j<2→us j=(two ts0 ts1 j).take (if j<i then k+1 else k)) ⟨_,_,_,_,rfl,t7,fun j hj=>by rw[if_neg (by lia)];exact hu7 j hj⟩ (fun _ _ _ _ _=>trivial) ?_ ?_
   ·clear hu7 t7
    rintro i y σ H8' H8 hi ⟨s8,s9,s10,us,rfl,t8,hu8⟩ ⟨rfl,rfl⟩
    refine⟨_,rfl,_,rfl,sl,_,_,_,rfl,rfl,SqL.of t8.hs,z3B (b:=two e0 e1) (g:=V.ref) hi,?_⟩
    refine⟨_,rfl,_,rfl,z0j (by show 2≤_;decide),fun z hz=>?_⟩
    have g9:=z0f hz (.lst [V.ref f0,V.ref f1])
    have e9:upd H8 z (.lst [V.ref f0,V.ref f1]) z=some (.lst [V.ref f0,V.ref f1]):=z0d
    generalize upd H8 z (.lst [V.ref f0,V.ref f1])=H9 at*
    have t9:=t8.same g9
    have hf:=t9.hf i hi
    refine⟨_,rfl,z,_,_,_,rfl,rfl,SqL.of e9,z3B (b:=two f0 f1) (g:=V.ref) hi,_,rfl,_,rfl,_,rfl,_,_,rfl,rfl,_,rfl,two f0 f1 i,_,rfl,SqL.of hf.1,fun sc hsc=>?_⟩
    rw[y5E,←List.map_drop,←List.map_take]
    have g10:=z0f hsc (.lst ((((two as0 as1 i).drop k).take 1).map V.ref))
    have e10:upd H9 sc (.lst ((((two as0 as1 i).drop k).take 1).map V.ref)) sc=some (.lst ((((two as0 as1 i).drop k).take 1).map V.ref)):=z0d
    generalize upd H9 sc (.lst ((((two as0 as1 i).drop k).take 1).map V.ref))=H10 at*
    have t10:=t9.same g10
    have hsc1:sc≠two s0 s1 i:=by
     obtain⟨as,hA⟩:=(t9.hh i hi).h
     exact (z0h hA.hst hsc).symm
    have hsc2:sc≠two e0 e1 i:=by
     obtain⟨bs,hb,_⟩:=(t9.hh i hi).l
     exact (z0h hb hsc).symm
    have al:(two as0 as1 i).length =(two ts0 ts1 i).length :=hf.2.1
    have cl:((((two as0 as1 i).drop k).take 1).map V.ref).length =min 1 ((two ts0 ts1 i).length - k):=by rw[q0a,q0o,q1K,al]
    clear t8 t9 g9 e9 hf g10 hsc
    refine⟨sc,rfl,⟨_,SqL.of e10⟩,?_⟩
    refine z0E (z0z K sc ((((two as0 as1 i).drop k).take 1).map V.ref)) (fun q σ H'=>∃s10 us,σ=[some (.ref a),some (.ref l1),some (.int most),some (.ref f0),some (.ref f1),some (.ref tp),some (.ref sl),some (.int (0+(k:Nat))),some (.int (0+(i:Nat))),some (.ref (two e0 e1 i)),s10]∧Two K C a ss l1 tp sl (two f0 f1) (two s0 s1) (two e0 e1) (two x0 x1) (two d0 d1) (two m0 m1) (two as0 as1) (two ts0 ts1) us H'∧H' sc=some (.lst ((((two as0 as1 i).drop k).take 1).map V.ref))∧∀j,j<2→us j=(two ts0 ts1 j).take (if j<i then k+1 else if j=i then k+q else k)) ⟨_,us,rfl,t10,e10,fun j hj=>?_⟩ (fun q σ H' _ h=>let ⟨_,_,_,_,e,_⟩:=h;SqL.of e) ?_ ?_
    ·rw[hu8 j hj,show (if j=i then k+0 else k)=k by split<;>rfl]
    ·clear t10 e10 hu8
     rintro q y σ H11' H11 hq ⟨s10,us,rfl,t11,e11,hu11⟩ ⟨rfl,hy⟩
     rw[cl] at hq
     obtain rfl:q=0:=by lia
     have hka:k<(two as0 as1 i).length :=by lia
     have hkt:k<(two ts0 ts1 i).length :=by lia
     have ey:((((two as0 as1 i).drop k).take 1).map V.ref)[0]? =some (.ref (two as0 as1 i)[k]):=by rw[q0h,q1s (by decide),List.getElem?_drop,Nat.add_zero,q0c hka];rfl
     rw[ey] at hy
     cases hy
     have hrt:=(t11.hf i hi).2.2 k _ _ (q0c hka) (q0c hkt)
     have hui:us i=(two ts0 ts1 i).take k:=by rw[hu11 i hi,if_neg (by lia),if_pos rfl];rfl
     have eu:us i++[(two ts0 ts1 i)[k]]=(two ts0 ts1 i).take (k+1):=by rw[hui];exact List.take_append_getElem hkt
     refine⟨_,rfl,_,rfl,tp,_,_,_,rfl,rfl,SqT.of t11.ht,z3B (b:=two x0 x1) (g:=V.ref) hi,_,rfl,_,rfl,l1,_,_,_,rfl,rfl,SqL.of t11.hl,atm i hi,_,rfl,_,rfl,two x0 x1 i,two d0 d1 i,two s0 s1 i,two e0 e1 i,_,two m0 m1 i,1,us i,_,rfl,t11.hh i hi,hrt,by decide,by decide,by rw[eu];exact (hft i hi).take _,fun H12 k12 hB12=>?_⟩
     refine⟨_,rfl,?_⟩
     refine z1I ?_
     refine⟨_,_,rfl,t11.step ap hi k12 hB12,k12 _ _ hsc1 hsc2 e11,fun j hj=>?_⟩
     by_cases c:j=i
     ·subst c
      rw[if_pos rfl,eu,if_neg (by lia),if_pos rfl]
     ·rw[if_neg c,hu11 j hj,if_neg c,if_neg c]
    ·rintro σ H11 ⟨s10,us,rfl,t11,e11,hu11⟩
     refine⟨_,_,_,us,rfl,t11,fun j hj=>?_⟩
     rw[hu11 j hj,cl]
     by_cases c1:j<i
     ·rw[if_pos c1,if_pos (by lia)]
     ·rw[if_neg c1]
      by_cases c2:j=i
      ·subst c2
       rw[if_pos rfl,if_pos (by lia)]
       by_cases c3:(two ts0 ts1 j).length ≤k
       ·rw[List.take_of_length_le (by lia),List.take_of_length_le (by lia)]
       ·rw[show min 1 ((two ts0 ts1 j).length - k)=1 by lia]
      ·rw[if_neg c2,if_neg (by lia)]
   ·rintro σ H8 ⟨s8,s9,s10,us,rfl,t8,hu8⟩
    exact⟨_,_,_,_,us,rfl,t8,fun j hj=>by have:=hu8 j hj;rw[if_pos hj] at this;exact this⟩
  ·rintro σ H7 ⟨s7,s8,s9,s10,us,rfl,t7,_⟩
   exact hN _ _ ⟨_,_,_,_,us,rfl,t7⟩
 clear t6
 rintro σ H7 ⟨s7,s8,s9,s10,us,rfl,t7⟩
 refine z0w (fun σ H'=>∃s8 s9 us,σ=[some (.ref a),some (.ref l1),some (.int most),some (.ref f0),some (.ref f1),some (.ref tp),some (.ref sl),s7,s8,s9,s10]∧Two K C a ss l1 tp sl (two f0 f1) (two s0 s1) (two e0 e1) (two x0 x1) (two d0 d1) (two m0 m1) (two as0 as1) (two ts0 ts1) us H') (fun N hN=>?_) ?_
 ·refine⟨_,rfl,by decide,by decide,?_⟩
  refine z0E (z1m 0 2) (fun _ σ H'=>∃s8 s9 us,σ=[some (.ref a),some (.ref l1),some (.int most),some (.ref f0),some (.ref f1),some (.ref tp),some (.ref sl),s7,s8,s9,s10]∧Two K C a ss l1 tp sl (two f0 f1) (two s0 s1) (two e0 e1) (two x0 x1) (two d0 d1) (two m0 m1) (two as0 as1) (two ts0 ts1) us H') ⟨_,_,_,rfl,t7⟩ (fun _ _ _ _ _=>trivial) ?_ ?_
  ·clear t7
   rintro i y σ H8' H8 hi ⟨s8,s9,us,rfl,t8⟩ ⟨rfl,rfl⟩
   refine⟨_,rfl,_,rfl,sl,_,_,_,rfl,rfl,SqL.of t8.hs,z3B (b:=two e0 e1) (g:=V.ref) hi,?_⟩
   refine⟨_,rfl,_,rfl,_,_,rfl,rfl,z1u (z2r (by lia) (by lia)) (z2r (by lia) (by lia)),_,_,rfl,rfl,_,rfl,_,rfl,tp,_,_,_,rfl,rfl,SqT.of t8.ht,z3B (b:=two x0 x1) (g:=V.ref) hi,_,rfl,_,rfl,l1,_,_,_,rfl,rfl,SqL.of t8.hl,atm i hi,_,rfl,a,two x0 x1 i,two d0 d1 i,two s0 s1 i,two e0 e1 i,two m0 m1 i,_,ss,us i,rfl,t8.hS,ap.sc i hi,h63,by lia,by lia,t8.hh i hi,fun H9 us' k9 hB9=>?_⟩
   refine⟨_,rfl,?_⟩
   refine z1I ?_
   exact⟨_,_,_,rfl,t8.step ap hi k9 hB9⟩
  ·rintro σ H8 ⟨s8,s9,us,rfl,t8⟩
   exact hN _ _ ⟨_,_,us,rfl,t8⟩
 clear t7
 rintro σ H8 ⟨s8,s9,us,rfl,t8⟩
 refine z0w (fun σ H'=>True) (fun N hN=>?_) ?_
 ·refine⟨z0j (by show 3≤_;decide),fun z hz=>?_⟩
  have g9:=z0f hz (.lst [V.int 0,V.int 1,V.int 0])
  have e9:upd H8 z (.lst [V.int 0,V.int 1,V.int 0]) z=some (.lst [V.int 0,V.int 1,V.int 0]):=z0d
  generalize upd H8 z (.lst [V.int 0,V.int 1,V.int 0])=H9 at*
  refine⟨z,rfl,⟨_,SqL.of e9⟩,?_⟩
  refine z0E (z0z K z [V.int 0,V.int 1,V.int 0]) (fun _ σ H'=>∃s8,σ=[some (.ref a),some (.ref l1),some (.int most),some (.ref f0),some (.ref f1),some (.ref tp),some (.ref sl),s7,s8,s9,s10]∧Two K C a ss l1 tp sl (two f0 f1) (two s0 s1) (two e0 e1) (two x0 x1) (two d0 d1) (two m0 m1) (two as0 as1) (two ts0 ts1) us H'∧H' z=some (.lst [V.int 0,V.int 1,V.int 0])) ⟨_,rfl,t8.same g9,e9⟩ (fun q σ H' _ h=>let ⟨_,_,_,e⟩:=h;SqL.of e) ?_ ?_
  ·rintro q y σ H10' H10 hq ⟨s8,rfl,t10,e10⟩ ⟨rfl,hy⟩
   obtain⟨i,hi,rfl⟩:∃i:Nat,i<2∧y= .int (0+(i:Nat)):=by
        rcases (by simp at hq;lia:q=0∨q=1∨q=2) with rfl|rfl|rfl
        ·exact⟨0,by lia,by cases hy;rfl⟩
        ·exact⟨1,by lia,by cases hy;rfl⟩
        ·exact⟨0,by lia,by cases hy;rfl⟩
   obtain⟨as,hA⟩:=(t10.hh i hi).h
   obtain⟨bs,hls,hbs⟩:=(t10.hh i hi).l
   refine⟨_,rfl,_,rfl,tp,_,_,_,rfl,rfl,SqT.of t10.ht,z3B (b:=two x0 x1) (g:=V.ref) hi,_,rfl,_,rfl,l1,_,_,_,rfl,rfl,SqL.of t10.hl,atm i hi,_,rfl,_,rfl,sl,_,_,_,rfl,rfl,SqL.of t10.hs,z3B (b:=two e0 e1) (g:=V.ref) hi,two x0 x1 i,two d0 d1 i,two s0 s1 i,two e0 e1 i,two m0 m1 i,as,bs,us i,rfl,hA,hls,hbs,(t10.hh i hi).w,fun H11 g11=>?_⟩
   refine⟨_,rfl,?_⟩
   refine z1I ?_
   exact⟨_,rfl,t10.same g11,g11 _ _ e10⟩
  ·rintro σ H10 _
   exact hN _ _ trivial
 rintro σ H9 _
 exact q _
end
end L2
namespace L2
open PySem PySem.Spec PyProof.Rows
theorem ln1 {α:Type}{C:List α→Prop} (h:∀x0,C [x0]) (us:List α) (hl:us.length=1):C us:=by
 rcases us with _|⟨x0,_|⟨y,us⟩⟩<;>first|exact h _|simp at hl
theorem ln2 {α:Type}{C:List α→Prop} (h:∀x0 x1,C [x0,x1]) (us:List α) (hl:us.length=2):C us:=by
 rcases us with _|⟨x0,_|⟨x1,_|⟨y,us⟩⟩⟩<;>first|exact h _ _|simp at hl
theorem ln3 {α:Type}{C:List α→Prop} (h:∀x0 x1 x2,C [x0,x1,x2]) (us:List α) (hl:us.length=3):C us:=by
 rcases us with _|⟨x0,_|⟨x1,_|⟨x2,_|⟨y,us⟩⟩⟩⟩<;>first|exact h _ _ _|simp at hl
theorem ln4 {α:Type}{C:List α→Prop} (h:∀x0 x1 x2 x3,C [x0,x1,x2,x3]) (us:List α) (hl:us.length=4):C us:=by
 rcases us with _|⟨x0,_|⟨x1,_|⟨x2,_|⟨x3,_|⟨y,us⟩⟩⟩⟩⟩<;>first|exact h _ _ _ _|simp at hl
theorem ln5 {α:Type}{C:List α→Prop} (h:∀x0 x1 x2 x3 x4,C [x0,x1,x2,x3,x4]) (us:List α) (hl:us.length=5):C us:=by
 rcases us with _|⟨x0,_|⟨x1,_|⟨x2,_|⟨x3,_|⟨x4,_|⟨y,us⟩⟩⟩⟩⟩⟩<;>first|exact h _ _ _ _ _|simp at hl
def Lk (K:PySem.W.Frag) (x:Str) (st:Stmt):Prop:=∃(f:Addr) (fd:FuncData),Fun K x x st f fd∧PySem.W.keepIn K (.ref f)=true∧PySem.W.nsIn K mainGlobals x=some (some (.ref f))
theorem lk {K:PySem.W.Frag}{x:Str}{st:Stmt}{f:Addr}{oc:Value}{od an:Option Addr}{osl:Array (Option Value)}{kV doc pm cdv ct:Value} (a:PySem.W.nsIn K mainGlobals x=some (some (.ref f))) (l:K.lookup f=some ⟨oc,od,.func (PySem.W.fnOf x x (z1l st) (z1h st) (z0i st) .none kV doc pm an cdv ct),osl⟩) (c:PySem.W.codeIn K cdv x=true) (k:PySem.W.keepIn K (.ref f)=true):Lk K x st:=⟨f,_,z2P l c k,k,a⟩
theorem all_mk {l:PySem.W.OpenLaw}{w:World}{K:PySem.W.Frag}{h:Heap}{mg:Str→Option Value}{fa:Addr} (X:K.In h) (G:h.Ns mainGlobals mg) (hfa:mg "law"=some (.ref fa))
 (h1:Lk K "divisor" z4k)
 (h2:Lk K "divisor_of_all" z1z)
 (h3:Lk K "ratio" z7I)
 (h4:Lk K "plus" y0T)
 (h5:Lk K "times" z7H)
 (h6:Lk K "below" z7L)
 (h7:Lk K "wall" y0R)
 (h8:Lk K "is_whole" z3p)
 (h9:Lk K "side" y0S)
 (h10:Lk K "first_place" z2j)
 (h11:Lk K "cleared" z4m)
 (h12:Lk K "rest_by" z4c)
 (h13:Lk K "drawn" z7K)
 (h14:Lk K "walls_within" z1X)
 (h15:Lk K "joined" z5P)
 (h16:Lk K "lowest" z5K)
 (h17:Lk K "turned" z5I)
 (h18:Lk K "height" z5Q)
 (h19:Lk K "lead" y0U)
 (h20:Lk K "lifted" z5L)
 (h21:Lk K "stepped" z4b)
 (h22:Lk K "spot_across" z1D)
 (h23:Lk K "spot_within" z1C)
 (h24:Lk K "bounds_at" z2U)
 (h25:Lk K "parted" z5J)
 (h26:Lk K "land_spots" z2w)
 (h27:Lk K "point_of" z3l)
 {od28 an28:Option Addr}{sl28:Array (Option Value)}{oc28 kV28 dc28 pm28 cd28 ct28:Value}{f28:Addr}
 (a28:PySem.W.nsIn K mainGlobals "lands"=some (some (.ref f28))) (l28:K.lookup f28=some ⟨oc28,od28,.func (PySem.W.fnOf "lands" "lands" (z1l z3m) (z1h z3m) (z0i z3m) .none kV28 dc28 pm28 an28 cd28 ct28),sl28⟩) (c28:PySem.W.codeIn K cd28 "lands"=true) (k28:PySem.W.keepIn K (.ref f28)=true)
 (h29:Lk K "is_land" z4j)
 (h30:Lk K "looked_land" z2i)
 (h31:Lk K "way_along" z2h)
 (h32:Lk K "way_within" z1V)
 (h33:Lk K "way_out" z4a)
 (h34:Lk K "counted" z4l)
 (h35:Lk K "parts_of_lots" z1N)
 (h36:Lk K "by_lots" z4n)
 (h37:Lk K "drawn_into" z2y)
 (h38:Lk K "by_taking_out" z1O)
 (h39:Lk K "_law_cell_at" z2T)
 (h40:Lk K "_law_whole" z4d)
 (h41:Lk K "_law_block" z4h)
 (h42:Lk K "_law_mixed" z4f)
 (h43:Lk K "_law_divisor" z2S)
 (h44:Lk K "_law_digits" z3o)
 (h45:Lk K "_law_plain" z4e)
 (h46:Lk K "_law_fences" z3n)
 (h47:Lk K "_law_goes_on" z2R)
 (h48:Lk K "_law_is_point" z2x)
 (h49:Lk K "_law_lands" z4g)
 (h50:Lk K "_law_outs" z5N)
 (h51:Lk K "_law_fits" z5O)
 (h52:Lk K "_law_put" z7J)
 (h53:Lk K "_law_again" z4i)
 {od54 an54:Option Addr}{sl54:Array (Option Value)}{oc54 kV54 dc54 pm54 cd54 ct54:Value}{f54:Addr}
 (a54:PySem.W.nsIn K mainGlobals "law"=some (some (.ref f54))) (l54:K.lookup f54=some ⟨oc54,od54,.func (PySem.W.fnOf "law" "law" (z1l z5M) (z1h z5M) (z0i z5M) .none kV54 dc54 pm54 an54 cd54 ct54),sl54⟩) (c54:PySem.W.codeIn K cd54 "law"=true) (k54:PySem.W.keepIn K (.ref f54)=true)
 (z1:PySem.W.nsIn K mainGlobals "abs"=some none)
 (z2:PySem.W.nsIn K mainGlobals "len"=some none)
 (z3:PySem.W.nsIn K mainGlobals "isinstance"=some none)
 (z4:PySem.W.nsIn K mainGlobals "int"=some none)
 (z5:PySem.W.nsIn K mainGlobals "bool"=some none)
 (z6:PySem.W.nsIn K mainGlobals "tuple"=some none)
 (z7:PySem.W.nsIn K mainGlobals "list"=some none)
 (z8:PySem.W.nsIn K mainGlobals "any"=some none)
 (z9:PySem.W.nsIn K mainGlobals "all"=some none)
 (z10:PySem.W.nsIn K mainGlobals "min"=some none)
 (z11:PySem.W.nsIn K mainGlobals "max"=some none)
 (z12:PySem.W.nsIn K mainGlobals "range"=some none)
 (z13:PySem.W.nsIn K mainGlobals "enumerate"=some none)
 (z14:PySem.W.nsIn K mainGlobals "zip"=some none)
 (z15:PySem.W.nsIn K mainGlobals "sum"=some none)
 (z16:PySem.W.nsIn K mainGlobals "reversed"=some none)
 (z17:PySem.W.nsIn K mainGlobals "sorted"=some none)
 {AHall fP fT fW fY fL fO fH:Addr}
 {odMH anMH:Option Addr}{slMH:Array (Option Value)}{ocMH kVMH dcMH pmMH cdMH ctMH:Value}
 {odMP anMP:Option Addr}{slMP:Array (Option Value)}{ocMP kVMP dcMP pmMP cdMP ctMP:Value}
 {odMT anMT:Option Addr}{slMT:Array (Option Value)}{ocMT kVMT dcMT pmMT cdMT ctMT:Value}
 {odMW anMW:Option Addr}{slMW:Array (Option Value)}{ocMW kVMW dcMW pmMW cdMW ctMW:Value}
 {odMY anMY:Option Addr}{slMY:Array (Option Value)}{ocMY kVMY dcMY pmMY cdMY ctMY:Value}
 {odML anML:Option Addr}{slML:Array (Option Value)}{ocML kVML dcML pmML cdML ctML:Value}
 {odMO anMO:Option Addr}{slMO:Array (Option Value)}{ocMO kVMO dcMO pmMO cdMO ctMO:Value}
 (nLL:PySem.W.nsIn K mainGlobals "lands_lands"=some (some (.ref f28)))
 (nHall:PySem.W.nsIn K mainGlobals "Hall"=some (some (.ref AHall)))
 (u1:PySem.W.plainGet K AHall Str.empty=true)
 (u2:PySem.W.hasDictIn K AHall=true)
 (u3:PySem.W.plainOver K AHall=true)
 (u4:PySem.W.findIn K (.ref AHall) "__setattr__"=some (some (.builtin "object.__setattr__")))
 (u5:PySem.W.findIn K (.ref AHall) "ways"=some none)
 (u6:PySem.W.findIn K (.ref AHall) "standing"=some none)
 (u7:PySem.W.makesIn K AHall=true)
 (u8:PySem.W.keepIn K (.ref AHall)=true)
 (atH:PySem.W.findIn K (.ref AHall) "__init__"=some (some (.ref fH)))
 (fnH:PySem.W.isFn K (.ref fH)=true)
 (lMH:K.lookup fH=some ⟨ocMH,odMH,.func (PySem.W.fnOf "__init__" "Hall.__init__" (z1l z3r) (z1h z3r) (z0i z3r) .none kVMH dcMH pmMH anMH cdMH ctMH),slMH⟩)
 (cMH:PySem.W.codeIn K cdMH "Hall.__init__"=true)
 (kMH:PySem.W.keepIn K (.ref fH)=true)
 (atP:PySem.W.findIn K (.ref AHall) "put"=some (some (.ref fP)))
 (fnP:PySem.W.isFn K (.ref fP)=true)
 (lMP:K.lookup fP=some ⟨ocMP,odMP,.func (PySem.W.fnOf "put" "Hall.put" (z1l z9u) (z1h z9u) (z0i z9u) .none kVMP dcMP pmMP anMP cdMP ctMP),slMP⟩)
 (cMP:PySem.W.codeIn K cdMP "Hall.put"=true)
 (kMP:PySem.W.keepIn K (.ref fP)=true)
 (atT:PySem.W.findIn K (.ref AHall) "take"=some (some (.ref fT)))
 (fnT:PySem.W.isFn K (.ref fT)=true)
 (lMT:K.lookup fT=some ⟨ocMT,odMT,.func (PySem.W.fnOf "take" "Hall.take" (z1l z5b) (z1h z5b) (z0i z5b) .none kVMT dcMT pmMT anMT cdMT ctMT),slMT⟩)
 (cMT:PySem.W.codeIn K cdMT "Hall.take"=true)
 (kMT:PySem.W.keepIn K (.ref fT)=true)
 (atW:PySem.W.findIn K (.ref AHall) "walls"=some (some (.ref fW)))
 (fnW:PySem.W.isFn K (.ref fW)=true)
 (lMW:K.lookup fW=some ⟨ocMW,odMW,.func (PySem.W.fnOf "walls" "Hall.walls" (z1l z3k) (z1h z3k) (z0i z3k) .none kVMW dcMW pmMW anMW cdMW ctMW),slMW⟩)
 (cMW:PySem.W.codeIn K cdMW "Hall.walls"=true)
 (kMW:PySem.W.keepIn K (.ref fW)=true)
 (atY:PySem.W.findIn K (.ref AHall) "polynomial"=some (some (.ref fY)))
 (fnY:PySem.W.isFn K (.ref fY)=true)
 (lMY:K.lookup fY=some ⟨ocMY,odMY,.func (PySem.W.fnOf "polynomial" "Hall.polynomial" (z1l z5c) (z1h z5c) (z0i z5c) .none kVMY dcMY pmMY anMY cdMY ctMY),slMY⟩)
 (cMY:PySem.W.codeIn K cdMY "Hall.polynomial"=true)
 (kMY:PySem.W.keepIn K (.ref fY)=true)
 (atL:PySem.W.findIn K (.ref AHall) "lands"=some (some (.ref fL)))
 (fnL:PySem.W.isFn K (.ref fL)=true)
 (lML:K.lookup fL=some ⟨ocML,odML,.func (PySem.W.fnOf "lands" "Hall.lands" (z1l z2G) (z1h z2G) (z0i z2G) .none kVML dcML pmML anML cdML ctML),slML⟩)
 (cML:PySem.W.codeIn K cdML "Hall.lands"=true)
 (kML:PySem.W.keepIn K (.ref fL)=true)
 (atO:PySem.W.findIn K (.ref AHall) "ways_out"=some (some (.ref fO)))
 (fnO:PySem.W.isFn K (.ref fO)=true)
 (lMO:K.lookup fO=some ⟨ocMO,odMO,.func (PySem.W.fnOf "ways_out" "Hall.ways_out" (z1l z3q) (z1h z3q) (z0i z3q) .none kVMO dcMO pmMO anMO cdMO ctMO),slMO⟩)
 (cMO:PySem.W.codeIn K cdMO "Hall.ways_out"=true)
 (kMO:PySem.W.keepIn K (.ref fO)=true)
 :∃fd:FuncData,(∀(s:Shared) (v:Value),BindsTo s fd ⟨[v],[]⟩ [("_law_script",v)])∧∀base:Heap,K.In base→base.Ns mainGlobals mg→FnOk l.prog w K mg base CX0 25 fa fd ["_law_script"] (y2L K):=by
 have e:=hfa.symm.trans (q0i X G a54)
 cases e
 have T:Txt mg:=⟨q0P X G z1,q0P X G z2,q0P X G z3,q0P X G z4,q0P X G z5,q0P X G z6,q0P X G z7,q0P X G z8,q0P X G z9,q0P X G z10,q0P X G z11,q0P X G z12,q0P X G z13,q0P X G z14,q0P X G z15,q0P X G z16,q0P X G z17⟩
 have hl:Hl K mg AHall fP fT fW fY fL fO:=⟨q0i X G nHall,⟨u1,u2,u3,u4⟩,u5,u6,⟨atP,fnP,kMP⟩,⟨atT,fnT,kMT⟩,⟨atW,fnW,kMW⟩,⟨atY,fnY,kMY⟩,⟨atL,fnL,kML⟩,⟨atO,fnO,kMO⟩⟩
 have hmk:Mk K AHall fH:=⟨u7,atH,fnH,u8⟩
 have FMH:=z2P (st:=z3r) lMH cMH kMH
 have bh:=FMH.binds (ps:=["self","ways"]) fun _ _ _ _ _ _=>ln2 fun _ _=>rfl
 have FMP:=z2P (st:=z9u) lMP cMP kMP
 have bput:=FMP.binds (ps:=["self","numbers"]) fun _ _ _ _ _ _=>ln2 fun _ _=>rfl
 have FMT:=z2P (st:=z5b) lMT cMT kMT
 have btake:=FMT.binds (ps:=["self","place"]) fun _ _ _ _ _ _=>ln2 fun _ _=>rfl
 have FMW:=z2P (st:=z3k) lMW cMW kMW
 have bwalls:=FMW.binds (ps:=["self"]) fun _ _ _ _ _ _=>ln1 fun _=>rfl
 have FMY:=z2P (st:=z5c) lMY cMY kMY
 have bpoly:=FMY.binds (ps:=["self"]) fun _ _ _ _ _ _=>ln1 fun _=>rfl
 have FML:=z2P (st:=z2G) lML cML kML
 have blands:=FML.binds (ps:=["self"]) fun _ _ _ _ _ _=>ln1 fun _=>rfl
 have FMO:=z2P (st:=z3q) lMO cMO kMO
 have bouts:=FMO.binds (ps:=["self"]) fun _ _ _ _ _ _=>ln1 fun _=>rfl
 obtain⟨_,_,F1,k1,a1⟩:=h1
 have b1:=F1.binds (ps:=["one","other"]) fun _ _ _ _ _ _=>ln2 fun _ _=>rfl
 obtain⟨_,_,F2,k2,a2⟩:=h2
 have b2:=F2.binds (ps:=["numbers"]) fun _ _ _ _ _ _=>ln1 fun _=>rfl
 obtain⟨_,_,F3,k3,a3⟩:=h3
 have b3:=F3.binds (ps:=["top","bottom"]) fun _ _ _ _ _ _=>ln2 fun _ _=>rfl
 obtain⟨_,_,F4,k4,a4⟩:=h4
 have b4:=F4.binds (ps:=["one","other"]) fun _ _ _ _ _ _=>ln2 fun _ _=>rfl
 obtain⟨_,_,F5,k5,a5⟩:=h5
 have b5:=F5.binds (ps:=["one","other"]) fun _ _ _ _ _ _=>ln2 fun _ _=>rfl
 obtain⟨_,_,F6,k6,a6⟩:=h6
 have b6:=F6.binds (ps:=["one","other"]) fun _ _ _ _ _ _=>ln2 fun _ _=>rfl
 obtain⟨_,_,F7,k7,a7⟩:=h7
 have b7:=F7.binds (ps:=["numbers"]) fun _ _ _ _ _ _=>ln1 fun _=>rfl
 obtain⟨_,_,F8,k8,a8⟩:=h8
 have b8:=F8.binds (ps:=["number"]) fun _ _ _ _ _ _=>ln1 fun _=>rfl
 obtain⟨_,_,F9,k9,a9⟩:=h9
 have b9:=F9.binds (ps:=["wall","point"]) fun _ _ _ _ _ _=>ln2 fun _ _=>rfl
 obtain⟨_,_,F10,k10,a10⟩:=h10
 have b10:=F10.binds (ps:=["row"]) fun _ _ _ _ _ _=>ln1 fun _=>rfl
 obtain⟨_,_,F11,k11,a11⟩:=h11
 have b11:=F11.binds (ps:=["numbers","row"]) fun _ _ _ _ _ _=>ln2 fun _ _=>rfl
 obtain⟨_,_,F12,k12,a12⟩:=h12
 have b12:=F12.binds (ps:=["rows","numbers"]) fun _ _ _ _ _ _=>ln2 fun _ _=>rfl
 obtain⟨_,_,F13,k13,a13⟩:=h13
 have b13:=F13.binds (ps:=["rows","numbers"]) fun _ _ _ _ _ _=>ln2 fun _ _=>rfl
 obtain⟨_,_,F14,k14,a14⟩:=h14
 have b14:=F14.binds (ps:=["rows","walls"]) fun _ _ _ _ _ _=>ln2 fun _ _=>rfl
 obtain⟨_,_,F15,k15,a15⟩:=h15
 have b15:=F15.binds (ps:=["rows","numbers"]) fun _ _ _ _ _ _=>ln2 fun _ _=>rfl
 obtain⟨_,_,F16,k16,a16⟩:=h16
 have b16:=F16.binds (ps:=["numbers"]) fun _ _ _ _ _ _=>ln1 fun _=>rfl
 obtain⟨_,_,F17,k17,a17⟩:=h17
 have b17:=F17.binds (ps:=["numbers","sign"]) fun _ _ _ _ _ _=>ln2 fun _ _=>rfl
 obtain⟨_,_,F18,k18,a18⟩:=h18
 have b18:=F18.binds (ps:=["bound","spot"]) fun _ _ _ _ _ _=>ln2 fun _ _=>rfl
 obtain⟨_,_,F19,k19,a19⟩:=h19
 have b19:=F19.binds (ps:=["bound"]) fun _ _ _ _ _ _=>ln1 fun _=>rfl
 obtain⟨_,_,F20,k20,a20⟩:=h20
 have b20:=F20.binds (ps:=["rows","spot"]) fun _ _ _ _ _ _=>ln2 fun _ _=>rfl
 obtain⟨_,_,F21,k21,a21⟩:=h21
 have b21:=F21.binds (ps:=["bounds","spot","place","sign"]) fun _ _ _ _ _ _=>ln4 fun _ _ _ _=>rfl
 obtain⟨_,_,F22,k22,a22⟩:=h22
 have b22:=F22.binds (ps:=["ways","bounds","bound"]) fun _ _ _ _ _ _=>ln3 fun _ _ _=>rfl
 obtain⟨_,_,F23,k23,a23⟩:=h23
 have b23:=F23.binds (ps:=["ways","bounds"]) fun _ _ _ _ _ _=>ln2 fun _ _=>rfl
 obtain⟨_,_,F24,k24,a24⟩:=h24
 have b24:=F24.binds (ps:=["walls","signs"]) fun _ _ _ _ _ _=>ln2 fun _ _=>rfl
 obtain⟨_,_,F25,k25,a25⟩:=h25
 have b25:=F25.binds (ps:=["ways","walls","found","numbers"]) fun _ _ _ _ _ _=>ln4 fun _ _ _ _=>rfl
 obtain⟨_,_,F26,k26,a26⟩:=h26
 have b26:=F26.binds (ps:=["ways","walls"]) fun _ _ _ _ _ _=>ln2 fun _ _=>rfl
 obtain⟨_,_,F27,k27,a27⟩:=h27
 have b27:=F27.binds (ps:=["spot"]) fun _ _ _ _ _ _=>ln1 fun _=>rfl
 have F28:=z2P (st:=z3m) l28 c28 k28
 have b28:=F28.binds (ps:=["ways","walls"]) fun _ _ _ _ _ _=>ln2 fun _ _=>rfl
 obtain⟨_,_,F29,k29,a29⟩:=h29
 have b29:=F29.binds (ps:=["ways","walls","signs"]) fun _ _ _ _ _ _=>ln3 fun _ _ _=>rfl
 obtain⟨_,_,F30,k30,a30⟩:=h30
 have b30:=F30.binds (ps:=["ways","walls","signs"]) fun _ _ _ _ _ _=>ln3 fun _ _ _=>rfl
 obtain⟨_,_,F31,k31,a31⟩:=h31
 have b31:=F31.binds (ps:=["ways","bounds","bound","way"]) fun _ _ _ _ _ _=>ln4 fun _ _ _ _=>rfl
 obtain⟨_,_,F32,k32,a32⟩:=h32
 have b32:=F32.binds (ps:=["ways","bounds"]) fun _ _ _ _ _ _=>ln2 fun _ _=>rfl
 obtain⟨_,_,F33,k33,a33⟩:=h33
 have b33:=F33.binds (ps:=["ways","walls","signs"]) fun _ _ _ _ _ _=>ln3 fun _ _ _=>rfl
 obtain⟨_,_,F34,k34,a34⟩:=h34
 have b34:=F34.binds (ps:=["ways","parts"]) fun _ _ _ _ _ _=>ln2 fun _ _=>rfl
 obtain⟨_,_,F35,k35,a35⟩:=h35
 have b35:=F35.binds (ps:=["walls"]) fun _ _ _ _ _ _=>ln1 fun _=>rfl
 obtain⟨_,_,F36,k36,a36⟩:=h36
 have b36:=F36.binds (ps:=["ways","walls"]) fun _ _ _ _ _ _=>ln2 fun _ _=>rfl
 obtain⟨_,_,F37,k37,a37⟩:=h37
 have b37:=F37.binds (ps:=["ways","walls","place"]) fun _ _ _ _ _ _=>ln3 fun _ _ _=>rfl
 obtain⟨_,_,F38,k38,a38⟩:=h38
 have b38:=F38.binds (ps:=["ways","walls"]) fun _ _ _ _ _ _=>ln2 fun _ _=>rfl
 obtain⟨_,_,F39,k39,a39⟩:=h39
 have b39:=F39.binds (ps:=["_law_script","_law_k"]) fun _ _ _ _ _ _=>ln2 fun _ _=>rfl
 obtain⟨_,_,F40,k40,a40⟩:=h40
 have b40:=F40.binds (ps:=["_law_found"]) fun _ _ _ _ _ _=>ln1 fun _=>rfl
 obtain⟨_,_,F41,k41,a41⟩:=h41
 have b41:=F41.binds (ps:=["_law_script","_law_k"]) fun _ _ _ _ _ _=>ln2 fun _ _=>rfl
 obtain⟨_,_,F42,k42,a42⟩:=h42
 have b42:=F42.binds (ps:=["_law_script","_law_k"]) fun _ _ _ _ _ _=>ln2 fun _ _=>rfl
 obtain⟨_,_,F43,k43,a43⟩:=h43
 have b43:=F43.binds (ps:=["_law_one","_law_other"]) fun _ _ _ _ _ _=>ln2 fun _ _=>rfl
 obtain⟨_,_,F44,k44,a44⟩:=h44
 have b44:=F44.binds (ps:=["_law_script","_law_start","_law_many","_law_base"]) fun _ _ _ _ _ _=>ln4 fun _ _ _ _=>rfl
 obtain⟨_,_,F45,k45,a45⟩:=h45
 have b45:=F45.binds (ps:=["_law_row"]) fun _ _ _ _ _ _=>ln1 fun _=>rfl
 obtain⟨_,_,F46,k46,a46⟩:=h46
 have b46:=F46.binds (ps:=["_law_script","_law_start","_law_ways","_law_many"]) fun _ _ _ _ _ _=>ln4 fun _ _ _ _=>rfl
 obtain⟨_,_,F47,k47,a47⟩:=h47
 have b47:=F47.binds (ps:=["_law_shuts","_law_signs","_law_way","_law_ways"]) fun _ _ _ _ _ _=>ln4 fun _ _ _ _=>rfl
 obtain⟨_,_,F48,k48,a48⟩:=h48
 have b48:=F48.binds (ps:=["_law_point","_law_ways"]) fun _ _ _ _ _ _=>ln2 fun _ _=>rfl
 obtain⟨_,_,F49,k49,a49⟩:=h49
 have b49:=F49.binds (ps:=["_law_found","_law_ways","_law_shuts","_law_due"]) fun _ _ _ _ _ _=>ln4 fun _ _ _ _=>rfl
 obtain⟨_,_,F50,k50,a50⟩:=h50
 have b50:=F50.binds (ps:=["_law_outs_here","_law_ways","_law_shuts","_law_due"]) fun _ _ _ _ _ _=>ln4 fun _ _ _ _=>rfl
 obtain⟨_,_,F51,k51,a51⟩:=h51
 have b51:=F51.binds (ps:=["_law_hall","_law_ways","_law_shuts"]) fun _ _ _ _ _ _=>ln3 fun _ _ _=>rfl
 obtain⟨_,_,F52,k52,a52⟩:=h52
 have b52:=F52.binds (ps:=["_law_hall","_law_ways","_law_shuts","_law_one","_law_by"]) fun _ _ _ _ _ _=>ln5 fun _ _ _ _ _=>rfl
 obtain⟨_,_,F53,k53,a53⟩:=h53
 have b53:=F53.binds (ps:=["_law_script","_law_start","_law_hall","_law_ways","_law_shuts"]) fun _ _ _ _ _ _=>ln5 fun _ _ _ _ _=>rfl
 have F54:=z2P (st:=z5M) l54 c54 k54
 refine⟨PySem.W.fnOf "law" "law" (z1l z5M) (z1h z5M) (z0i z5M) .none kV54 dc54 pm54 an54 cd54 ct54,fun s v=> .of_eq rfl,fun base _ _=>?_⟩
 have C1:Cal l.prog w K mg base 1 "divisor" _ _:=⟨_,_,z9J T F1,b1,k1,q0i X G a1⟩
 have C2:Cal l.prog w K mg base 2 "divisor_of_all" _ _:=⟨_,_,z3w T F2 (C1.mono (by decide)),b2,k2,q0i X G a2⟩
 have C3:Cal l.prog w K mg base 2 "ratio" _ _:=⟨_,_,y3k T F3 (C1.mono (by decide)),b3,k3,q0i X G a3⟩
 have C4:Cal l.prog w K mg base 3 "plus" _ _:=⟨_,_,y5g T F4 (C3.mono (by decide)),b4,k4,q0i X G a4⟩
 have C5:Cal l.prog w K mg base 3 "times" _ _:=⟨_,_,y3j T F5 (C3.mono (by decide)),b5,k5,q0i X G a5⟩
 have C6:Cal l.prog w K mg base 1 "below" _ _:=⟨_,_,y3r T F6,b6,k6,q0i X G a6⟩
 have C7:Cal l.prog w K mg base 3 "wall" _ _:=⟨_,_,y5d T F7 (C2.mono (by decide)),b7,k7,q0i X G a7⟩
 have C8:Cal l.prog w K mg base 1 "is_whole" _ _:=⟨_,_,z7W T F8,b8,k8,q0i X G a8⟩
 have C9:Cal l.prog w K mg base 4 "side" _ _:=⟨_,_,y5f T F9 (C4.mono (by decide)) (C5.mono (by decide)) (C6.mono (by decide)),b9,k9,q0i X G a9⟩
 have C10:Cal l.prog w K mg base 1 "first_place" _ _:=⟨_,_,z4T T F10,b10,k10,q0i X G a10⟩
 have C11:Cal l.prog w K mg base 2 "cleared" _ _:=⟨_,_,z9L T F11 (C10.mono (by decide)) (C1.mono (by decide)),b11,k11,q0i X G a11⟩
 have C12:Cal l.prog w K mg base 3 "rest_by" _ _:=⟨_,_,z9B T F12 (C11.mono (by decide)),b12,k12,q0i X G a12⟩
 have C13:Cal l.prog w K mg base 4 "drawn" _ _:=⟨_,_,y3q T F13 (C10.mono (by decide)) (C12.mono (by decide)),b13,k13,q0i X G a13⟩
 have C14:Cal l.prog w K mg base 5 "walls_within" _ _:=⟨_,_,z4u T F14 ((C13.imp fun _ _ _ _ h=>y5C h).mono (by decide)) (C7.mono (by decide)),b14,k14,q0i X G a14⟩
 have C15:Cal l.prog w K mg base 5 "joined" _ _:=⟨_,_,y1A T F15 ((C12.imp fun _ _ _ _ h=>y6f h).mono (by decide)) (C7.mono (by decide)) (C11.mono (by decide)) (C10.mono (by decide)),b15,k15,q0i X G a15⟩
 have C16:Cal l.prog w K mg base 3 "lowest" _ _:=⟨_,_,y1w T F16 (C2.mono (by decide)),b16,k16,q0i X G a16⟩
 have C17:Cal l.prog w K mg base 1 "turned" _ _:=⟨_,_,y1u T F17,b17,k17,q0i X G a17⟩
 have C18:Cal l.prog w K mg base 1 "height" _ _:=⟨_,_,y1D T F18,b18,k18,q0i X G a18⟩
 have C19:Cal l.prog w K mg base 2 "lead" _ _:=⟨_,_,y5h T F19 (C10.mono (by decide)),b19,k19,q0i X G a19⟩
 have C20:Cal l.prog w K mg base 4 "lifted" _ _:=⟨_,_,y1x T F20 (C10.mono (by decide)) (C18.mono (by decide)) (C16.mono (by decide)),b20,k20,q0i X G a20⟩
 have C21:Cal l.prog w K mg base 4 "stepped" _ _:=⟨_,_,z9A T F21 (C18.mono (by decide)) (C16.mono (by decide)),b21,k21,q0i X G a21⟩
 have C22:∀m,m≤4→Cal l.prog w K mg base 15 "spot_across" _ (z7A K (m+1)):=fun m hm=>(show Cal l.prog w K mg base (6+2*m+1) "spot_across" _ (z7A K (m+1)) from⟨_,_,(z5W T F22 b22 k22 (q0i X G a22) F23 b23 k23 (q0i X G a23) (C17.mono (by decide)) (C19.mono (by decide)) ((C13.imp fun _ _ _ _ h=>z8h h).mono (by decide)) (C21.mono (by decide)) (C20.mono (by decide)) (C10.mono (by decide)) (C18.mono (by decide)) m).2,b22,k22,q0i X G a22⟩).mono (by lia)
 have C23:∀m,m≤4→Cal l.prog w K mg base 16 "spot_within" _ (z7x K (m+1)):=fun m hm=>(show Cal l.prog w K mg base (6+2*(m+1)) "spot_within" _ (z7x K (m+1)) from⟨_,_,(z5W T F22 b22 k22 (q0i X G a22) F23 b23 k23 (q0i X G a23) (C17.mono (by decide)) (C19.mono (by decide)) ((C13.imp fun _ _ _ _ h=>z8h h).mono (by decide)) (C21.mono (by decide)) (C20.mono (by decide)) (C10.mono (by decide)) (C18.mono (by decide)) (m+1)).1,b23,k23,q0i X G a23⟩).mono (by lia)
 have C24:Cal l.prog w K mg base 2 "bounds_at" _ _:=⟨_,_,z6Q T F24 (C17.mono (by decide)),b24,k24,q0i X G a24⟩
 have C25:Cal l.prog w K mg base 16 "parted" _ _:=⟨_,_,y1v T F25 (C24.mono (by decide)) (C17.mono (by decide)) (C18.mono (by decide)) C22,b25,k25,q0i X G a25⟩
 have C26:Cal l.prog w K mg base 17 "land_spots" _ _:=⟨_,_,z5X T F26 (C25.mono (by decide)),b26,k26,q0i X G a26⟩
 have C27:Cal l.prog w K mg base 3 "point_of" _ _:=⟨_,_,z7T T F27 (C3.mono (by decide)),b27,k27,q0i X G a27⟩
 have C28:Cal l.prog w K mg base 18 "lands" _ _:=⟨_,_,z8N T F28 (C26.mono (by decide)) (C27.mono (by decide)),b28,k28,q0i X G a28⟩
 have C29:Cal l.prog w K mg base 17 "is_land" _ _:=⟨_,_,z9I T F29 (C8.mono (by decide)) (C24.mono (by decide)) C23,b29,k29,q0i X G a29⟩
 have C30:Cal l.prog w K mg base 18 "looked_land" _ _:=⟨_,_,z4S T F30 (C29.mono (by decide)),b30,k30,q0i X G a30⟩
 have C31:True:=trivial
 have C32:∀m,m≤4→Cal l.prog w K mg base 18 "way_within" _ (z3W K (m+1)):=fun m hm=>(show Cal l.prog w K mg base (6+2*(m+1)) "way_within" _ (z3W K (m+1)) from⟨_,_,(y1s T F31 b31 k31 (q0i X G a31) F32 b32 k32 (q0i X G a32) (C17.mono (by decide)) (C19.mono (by decide)) ((C13.imp fun _ _ _ _ h=>z8h h).mono (by decide)) (C20.mono (by decide)) (C18.mono (by decide)) (m+1)).1,b32,k32,q0i X G a32⟩).mono (by lia)
 have C33:Cal l.prog w K mg base 19 "way_out" _ _:=⟨_,_,z9z T F33 (C30.mono (by decide)) (C24.mono (by decide)) C32,b33,k33,q0i X G a33⟩
 have C34:Cal l.prog w K mg base 1 "counted" _ _:=⟨_,_,z9K T F34,b34,k34,q0i X G a34⟩
 have C35:Cal l.prog w K mg base 6 "parts_of_lots" _ _:=⟨_,_,z3I T F35 (C15.mono (by decide)),b35,k35,q0i X G a35⟩
 have C36:Cal l.prog w K mg base 7 "by_lots" _ _:=⟨_,_,z9M T F36 (C34.mono (by decide)) (C35.mono (by decide)),b36,k36,q0i X G a36⟩
 have C37:Cal l.prog w K mg base 6 "drawn_into" _ _:=⟨_,_,z5Z T F37 (C14.mono (by decide)),b37,k37,q0i X G a37⟩
 have C38:Cal l.prog w K mg base 11 "by_taking_out" _ _:=⟨_,_,y4f T F38 b38 k38 (q0i X G a38) (C37.mono (by decide)) 5,b38,k38,q0i X G a38⟩
 have C39:Cal l.prog w K mg base 1 "_law_cell_at" _ _:=⟨_,_,z6P T F39,b39,k39,q0i X G a39⟩
 have C40:Cal l.prog w K mg base 1 "_law_whole" _ _:=⟨_,_,z9C T F40,b40,k40,q0i X G a40⟩
 have C41:Cal l.prog w K mg base 1 "_law_block" _ _:=⟨_,_,z9G T F41,b41,k41,q0i X G a41⟩
 have C42:Cal l.prog w K mg base 2 "_law_mixed" _ _:=⟨_,_,z9E T F42 (C41.mono (by decide)),b42,k42,q0i X G a42⟩
 have C43:Cal l.prog w K mg base 1 "_law_divisor" _ _:=⟨_,_,z6O T F43,b43,k43,q0i X G a43⟩
 have C44:Cal l.prog w K mg base 3 "_law_digits" _ _:=⟨_,_,z7V T F44 (C39.mono (by decide)) (C42.mono (by decide)),b44,k44,q0i X G a44⟩
 have C45:Cal l.prog w K mg base 2 "_law_plain" _ _:=⟨_,_,z9D T F45 (C43.mono (by decide)),b45,k45,q0i X G a45⟩
 have C46:Cal l.prog w K mg base 4 "_law_fences" _ _:=⟨_,_,z7U T F46 (C44.mono (by decide)) (C45.mono (by decide)),b46,k46,q0i X G a46⟩
 have C47:Cal l.prog w K mg base 2 "_law_goes_on" _ _:=⟨_,_,z6N T F47 (C40.mono (by decide)),b47,k47,q0i X G a47⟩
 have C48:Cal l.prog w K mg base 2 "_law_is_point" _ _:=⟨_,_,z5Y T F48 (C40.mono (by decide)) (C43.mono (by decide)),b48,k48,q0i X G a48⟩
 have C49:Cal l.prog w K mg base 5 "_law_lands" _ _:=⟨_,_,z9F T F49 (C48.mono (by decide)) (C9.mono (by decide)),b49,k49,q0i X G a49⟩
 have C50:Cal l.prog w K mg base 20 "_law_outs" _ _:=⟨_,_,y1y T F50 (C33.mono (by decide)) (C47.mono (by decide)),b50,k50,q0i X G a50⟩
 have CLL:Cal l.prog w K mg base 18 "lands_lands" _ _:=⟨_,_,z8N T F28 (C26.mono (by decide)) (C27.mono (by decide)),b28,k28,q0i X G nLL⟩
 have Fwalls:=y1B (P:=l.prog) (w:=w) (base:=base) T hl FMW
 have Fpoly:=y3n (P:=l.prog) (w:=w) (base:=base) hl FMY (C38.mono (by decide))
 have Flands:=y1C (P:=l.prog) (w:=w) (base:=base) hl FML CLL
 have Fouts:=y3o (P:=l.prog) (w:=w) (base:=base) hl FMO Flands blands (C33.mono (by decide))
 have C51:Cal l.prog w K mg base 22 "_law_fits" _ _:=⟨_,_,y1z T hl F51 (Fwalls.mono (by decide)) bwalls (Fpoly.mono (by decide)) bpoly (Flands.mono (by decide)) blands (Fouts.mono (by decide)) bouts (C36.mono (by decide)) (CLL.mono (by decide)) (C49.mono (by decide)) (C50.mono (by decide)),b51,k51,q0i X G a51⟩
 have Fput:=y6B (P:=l.prog) (w:=w) (base:=base) T hl FMP (C7.mono (by decide))
 have C52:Cal l.prog w K mg base 23 "_law_put" _ _:=⟨_,_,y3l T hl F52 (Fput.mono (by decide)) bput (C51.mono (by decide)),b52,k52,q0i X G a52⟩
 have Ftake:=y3m (P:=l.prog) (w:=w) (base:=base) T hl FMT
 have C53:Cal l.prog w K mg base 24 "_law_again" _ _:=⟨_,_,z9H T hl F53 (Fwalls.mono (by decide)) bwalls (Ftake.mono (by decide)) btake (C42.mono (by decide)) (C51.mono (by decide)) (C52.mono (by decide)),b53,k53,q0i X G a53⟩
 have Fh:=y3p (P:=l.prog) (w:=w) (base:=base) hl FMH
 exact y6C T hl hmk F54 (Fh.mono (by decide)) bh (C39.mono (by decide)) (C46.mono (by decide)) (C52.mono (by decide)) (C53.mono (by decide)) (C51.mono (by decide))
theorem walk {l:PySem.W.OpenLaw}{q:Program}{loose:List Str}{XP:(Str→Option Value)→Heap→Prop}{YP:World→Heap→Prop}{d:DefRec}{K:Params→PySem.W.Frag} (hn:l.most=some 63) (hdf:d.params.defaults=[])
 (hY:∀(w:World) (h:Heap),YP w h→(K w.params).In h)
 (F:∀(w:World) (mg:Str→Option Value) (fa:Addr) (h:Heap),(K w.params).In h→h.Ns mainGlobals mg→mg d.name=some (.ref fa)→
  ∃fd:FuncData,(∀(s:Shared) (u:Value),BindsTo s fd ⟨[u],[]⟩ [("_law_script",u)])∧∀base:Heap,(K w.params).In base→base.Ns mainGlobals mg→FnOk l.prog w (K w.params) mg base CX0 25 fa fd ["_law_script"] (y2L (K w.params))):
 PySem.W.WalkO q loose XP YP l.row.toRowW d [] (fun f vs=>PySem.call f vs):=
 L2.walk_of (n:=63) (k:=25) (x:="_law_script") (CX:=fun _=>CX0) (sp:=fun w=>y2L (K w.params)) hn (by decide) hdf ⟨rfl,by decide,by decide⟩ hY F (fun _ _ a ns hl _ hS=>⟨a,ns,rfl,hS,hl,fun _=>rfl⟩) fun _ _ _ _ _ z=>z
end L2
open PySem PySem.W PyProof.Rows
theorem PySem.W.Fast.tw17116770780609271968 : True := trivial
theorem PySem.W.Fast.tw13651153840766817601 : True := trivial
theorem PySem.W.Fast.tw15851599678208942914 : True := trivial
theorem PySem.W.Fast.tw16634983550495741827 : True := trivial
theorem PySem.W.Fast.tw10252100686632872037 : True := trivial
theorem PySem.W.Fast.tw13033814573464915591 : True := trivial
theorem PySem.W.Fast.tw264661459219371016 : True := trivial
theorem PySem.W.Fast.tw14017534283130626057 : True := trivial
theorem PySem.W.Fast.tw10016686994338971145 : True := trivial
theorem PySem.W.Fast.tw16129270406946201289 : True := trivial
theorem PySem.W.Fast.tw1133842627185789322 : True := trivial
theorem PySem.W.Fast.tw15329844017164618251 : True := trivial
theorem PySem.W.Fast.tw6209250889629753260 : True := trivial
theorem PySem.W.Fast.tw6040343272489373841 : True := trivial
theorem PySem.W.Fast.tw11118183599269664978 : True := trivial
theorem PySem.W.Fast.tw17086209513592655378 : True := trivial
theorem PySem.W.Fast.tw7164273135745759762 : True := trivial
theorem PySem.W.Fast.tw3602583113170544242 : True := trivial
theorem PySem.W.Fast.tw310971962587134068 : True := trivial
theorem PySem.W.Fast.tw13774349716430900916 : True := trivial
theorem PySem.W.Fast.tw7092306984002948886 : True := trivial
theorem PySem.W.Fast.tw14072268405018418264 : True := trivial
theorem PySem.W.Fast.tw6669209960365950488 : True := trivial
theorem PySem.W.Fast.tw954017809162585177 : True := trivial
theorem PySem.W.Fast.tw12646278000467844185 : True := trivial
theorem PySem.W.Fast.tw4838943471353900058 : True := trivial
theorem PySem.W.Fast.tw4710209193418025148 : True := trivial
theorem PySem.W.Fast.tw272760905817515854 : True := trivial
set_option maxRecDepth 100000 in
set_option maxHeartbeats 0 in
theorem PySem.Challenge.cw_wallspace_k82_whole_what_a_hall_tells_holds : PySem.Challenge.rw_wallspace_k82_whole_what_a_hall_tells.Holds := by
  w_on; o_law; k_head; (case hw => w_witness2)
  k_fill
  refine L2.walk (l := PySem.Challenge.rw_wallspace_k82_whole_what_a_hall_tells) rfl rfl (fun w h Y => PySem.W.kIn_of Y) ?F
  case F =>
    intro w mg fa h KX G hmg
    refine' L2.all_mk KX G hmg ?h1 ?h2 ?h3 ?h4 ?h5 ?h6 ?h7 ?h8 ?h9 ?h10 ?h11 ?h12 ?h13 ?h14 ?h15 ?h16 ?h17 ?h18 ?h19 ?h20 ?h21 ?h22 ?h23 ?h24 ?h25 ?h26 ?h27 ?a28 ?l28 ?c28 ?k28 ?h29 ?h30 ?h31 ?h32 ?h33 ?h34 ?h35 ?h36 ?h37 ?h38 ?h39 ?h40 ?h41 ?h42 ?h43 ?h44 ?h45 ?h46 ?h47 ?h48 ?h49 ?h50 ?h51 ?h52 ?h53 ?a54 ?l54 ?c54 ?k54 ?z1 ?z2 ?z3 ?z4 ?z5 ?z6 ?z7 ?z8 ?z9 ?z10 ?z11 ?z12 ?z13 ?z14 ?z15 ?z16 ?z17 ?nLL ?nHall ?u1 ?u2 ?u3 ?u4 ?u5 ?u6 ?u7 ?u8 ?atH ?fnH ?lMH ?cMH ?kMH ?atP ?fnP ?lMP ?cMP ?kMP ?atT ?fnT ?lMT ?cMT ?kMT ?atW ?fnW ?lMW ?cMW ?kMW ?atY ?fnY ?lMY ?cMY ?kMY ?atL ?fnL ?lML ?cML ?kML ?atO ?fnO ?lMO ?cMO ?kMO
    (case h1 => exact L2.lk (by k_is) (by k_is) (by k_is) (by k_is))
    (case h2 => exact L2.lk (by k_is) (by k_is) (by k_is) (by k_is))
    (case h3 => exact L2.lk (by k_is) (by k_is) (by k_is) (by k_is))
    (case h4 => exact L2.lk (by k_is) (by k_is) (by k_is) (by k_is))
    (case h5 => exact L2.lk (by k_is) (by k_is) (by k_is) (by k_is))
    (case h6 => exact L2.lk (by k_is) (by k_is) (by k_is) (by k_is))
    (case h7 => exact L2.lk (by k_is) (by k_is) (by k_is) (by k_is))
    (case h8 => exact L2.lk (by k_is) (by k_is) (by k_is) (by k_is))
    (case h9 => exact L2.lk (by k_is) (by k_is) (by k_is) (by k_is))
    (case h10 => exact L2.lk (by k_is) (by k_is) (by k_is) (by k_is))
    (case h11 => exact L2.lk (by k_is) (by k_is) (by k_is) (by k_is))
    (case h12 => exact L2.lk (by k_is) (by k_is) (by k_is) (by k_is))
    (case h13 => exact L2.lk (by k_is) (by k_is) (by k_is) (by k_is))
    (case h14 => exact L2.lk (by k_is) (by k_is) (by k_is) (by k_is))
    (case h15 => exact L2.lk (by k_is) (by k_is) (by k_is) (by k_is))
    (case h16 => exact L2.lk (by k_is) (by k_is) (by k_is) (by k_is))
    (case h17 => exact L2.lk (by k_is) (by k_is) (by k_is) (by k_is))
    (case h18 => exact L2.lk (by k_is) (by k_is) (by k_is) (by k_is))
    (case h19 => exact L2.lk (by k_is) (by k_is) (by k_is) (by k_is))
    (case h20 => exact L2.lk (by k_is) (by k_is) (by k_is) (by k_is))
    (case h21 => exact L2.lk (by k_is) (by k_is) (by k_is) (by k_is))
    (case h22 => exact L2.lk (by k_is) (by k_is) (by k_is) (by k_is))
    (case h23 => exact L2.lk (by k_is) (by k_is) (by k_is) (by k_is))
    (case h24 => exact L2.lk (by k_is) (by k_is) (by k_is) (by k_is))
    (case h25 => exact L2.lk (by k_is) (by k_is) (by k_is) (by k_is))
    (case h26 => exact L2.lk (by k_is) (by k_is) (by k_is) (by k_is))
    (case h27 => exact L2.lk (by k_is) (by k_is) (by k_is) (by k_is))
    (case a28 => k_is)
    (case l28 => k_is)
    (case c28 => k_is)
    (case k28 => k_is)
    (case h29 => exact L2.lk (by k_is) (by k_is) (by k_is) (by k_is))
    (case h30 => exact L2.lk (by k_is) (by k_is) (by k_is) (by k_is))
    (case h31 => exact L2.lk (by k_is) (by k_is) (by k_is) (by k_is))
    (case h32 => exact L2.lk (by k_is) (by k_is) (by k_is) (by k_is))
    (case h33 => exact L2.lk (by k_is) (by k_is) (by k_is) (by k_is))
    (case h34 => exact L2.lk (by k_is) (by k_is) (by k_is) (by k_is))
    (case h35 => exact L2.lk (by k_is) (by k_is) (by k_is) (by k_is))
    (case h36 => exact L2.lk (by k_is) (by k_is) (by k_is) (by k_is))
    (case h37 => exact L2.lk (by k_is) (by k_is) (by k_is) (by k_is))
    (case h38 => exact L2.lk (by k_is) (by k_is) (by k_is) (by k_is))
    (case h39 => exact L2.lk (by k_is) (by k_is) (by k_is) (by k_is))
    (case h40 => exact L2.lk (by k_is) (by k_is) (by k_is) (by k_is))
    (case h41 => exact L2.lk (by k_is) (by k_is) (by k_is) (by k_is))
    (case h42 => exact L2.lk (by k_is) (by k_is) (by k_is) (by k_is))
    (case h43 => exact L2.lk (by k_is) (by k_is) (by k_is) (by k_is))
    (case h44 => exact L2.lk (by k_is) (by k_is) (by k_is) (by k_is))
    (case h45 => exact L2.lk (by k_is) (by k_is) (by k_is) (by k_is))
    (case h46 => exact L2.lk (by k_is) (by k_is) (by k_is) (by k_is))
    (case h47 => exact L2.lk (by k_is) (by k_is) (by k_is) (by k_is))
    (case h48 => exact L2.lk (by k_is) (by k_is) (by k_is) (by k_is))
    (case h49 => exact L2.lk (by k_is) (by k_is) (by k_is) (by k_is))
    (case h50 => exact L2.lk (by k_is) (by k_is) (by k_is) (by k_is))
    (case h51 => exact L2.lk (by k_is) (by k_is) (by k_is) (by k_is))
    (case h52 => exact L2.lk (by k_is) (by k_is) (by k_is) (by k_is))
    (case h53 => exact L2.lk (by k_is) (by k_is) (by k_is) (by k_is))
    (case a54 => k_is)
    (case l54 => k_is)
    (case c54 => k_is)
    (case k54 => k_is)
    (case z1 => k_is)
    (case z2 => k_is)
    (case z3 => k_is)
    (case z4 => k_is)
    (case z5 => k_is)
    (case z6 => k_is)
    (case z7 => k_is)
    (case z8 => k_is)
    (case z9 => k_is)
    (case z10 => k_is)
    (case z11 => k_is)
    (case z12 => k_is)
    (case z13 => k_is)
    (case z14 => k_is)
    (case z15 => k_is)
    (case z16 => k_is)
    (case z17 => k_is)
    (case nLL => k_is)
    (case nHall => k_is)
    (case u1 => kernel_rfl)
    (case u2 => kernel_rfl)
    (case u3 => kernel_rfl)
    (case u4 => k_is)
    (case u5 => k_is)
    (case u6 => k_is)
    (case u7 => kernel_rfl)
    (case u8 => k_is)
    (case atH => k_is)
    (case fnH => kernel_rfl)
    (case lMH => k_is)
    (case cMH => k_is)
    (case kMH => k_is)
    (case atP => k_is)
    (case fnP => kernel_rfl)
    (case lMP => k_is)
    (case cMP => k_is)
    (case kMP => k_is)
    (case atT => k_is)
    (case fnT => kernel_rfl)
    (case lMT => k_is)
    (case cMT => k_is)
    (case kMT => k_is)
    (case atW => k_is)
    (case fnW => kernel_rfl)
    (case lMW => k_is)
    (case cMW => k_is)
    (case kMW => k_is)
    (case atY => k_is)
    (case fnY => kernel_rfl)
    (case lMY => k_is)
    (case cMY => k_is)
    (case kMY => k_is)
    (case atL => k_is)
    (case fnL => kernel_rfl)
    (case lML => k_is)
    (case cML => k_is)
    (case kML => k_is)
    (case atO => k_is)
    (case fnO => kernel_rfl)
    (case lMO => k_is)
    (case cMO => k_is)
    (case kMO => k_is)
