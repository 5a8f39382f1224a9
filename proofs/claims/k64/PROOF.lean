import PyProof.Rows.All
import Wide.All
import OpenK.KLine
import KE.KItem
import KE.KSortTup
import KE.KSortAsk
import Wide.FinOn
import Lean
import PyProof.EqAt
import PyProof.EqKinds
import PyProof.TupleCall
import KE.KRevIter
import PyProof.NeKinds
import PyProof.Draws
import PyProof.Rows.Range3
import PyProof.FitsBits
import PyProof.FactsAll.NoneType_1
import PyProof.DictWalks
import PyProof.DictValues
import KE.KTryMore
import PyProof.WalkInts
import PyProof.StrLawsOcc
import KE.RegKTryMore
import KE.RegKIsAll
import PyProof.StationsW
import PyProof.ExcArgsOwn
import PyProof.ExcAttrAll.ValueError
import PyProof.EnumMake
import PyProof.ReprRoads
import PyProof.StrLawsRepr
import PyProof.FitsInt
import PyProof.Rows.RegStrFacts
import PyProof.Rows.TupAdd
import PySem.Challenge.RW_hoopcord_k64_whole_another_full_shape
set_option Elab.async false
set_option linter.all false
set_option maxRecDepth 100000
set_option maxHeartbeats 8000000
set_option compiler.extract_closed false
noncomputable section
set_option genSizeOf false
set_option genInjectivity false
theorem Z0:type_of% @Option.bind_eq_some_iff:=@Option.bind_eq_some_iff
theorem Z1:type_of% @Option.bind_some:=@Option.bind_some
theorem Z2:type_of% @List.length_map:=@List.length_map
theorem Z3:type_of% @List.getElem?_eq_getElem:=@List.getElem?_eq_getElem
theorem Z4:type_of% @List.size_toArray:=@List.size_toArray
theorem Z5:type_of% @List.getD_eq_getElem?_getD:=@List.getD_eq_getElem?_getD
theorem Z6:type_of% @List.map_cons:=@List.map_cons
theorem Z7:type_of% @PySem.Heap.get?_push_of_some:=@PySem.Heap.get?_push_of_some
theorem Z8:type_of% @List.mem_cons_of_mem:=@List.mem_cons_of_mem
theorem Z9:type_of% @List.getElem?_eq_some_iff:=@List.getElem?_eq_some_iff
theorem Z10:type_of% @Nat.le_refl:=@Nat.le_refl
theorem Z11:type_of% @List.mem_append:=@List.mem_append
theorem Z12:type_of% @List.mem_singleton:=@List.mem_singleton
theorem Z13:type_of% @PySem.Heap.lt_size:=@PySem.Heap.lt_size
theorem Z14:type_of% @Nat.le_of_ble_eq_true:=@Nat.le_of_ble_eq_true
theorem Z15:type_of% @Nat.lt_of_lt_of_le:=@Nat.lt_of_lt_of_le
theorem Z16:type_of% @List.mem_cons_self:=@List.mem_cons_self
theorem Z17:type_of% @List.length_append:=@List.length_append
theorem Z18:type_of% @List.mem_map:=@List.mem_map
theorem Z19:type_of% @List.mem_cons:=@List.mem_cons
theorem Z20:type_of% @PySem.Heap.get?_push_size:=@PySem.Heap.get?_push_size
theorem Z21:type_of% @List.getElem?_map:=@List.getElem?_map
theorem Z22:type_of% @List.replicate_succ:=@List.replicate_succ
theorem Z23:type_of% @List.map_append:=@List.map_append
theorem Z24:type_of% @Nat.le_trans:=@Nat.le_trans
theorem Z25:type_of% @Bool.and_eq_true:=@Bool.and_eq_true
theorem Z26:type_of% @Nat.ne_of_lt:=@Nat.ne_of_lt
theorem Z27:type_of% @Option.some.inj:=@Option.some.inj
theorem Z28:type_of% @Bool.false_ne_true:=@Bool.false_ne_true
theorem Z30:type_of% @Nat.zero_le:=@Nat.zero_le
theorem Z31:type_of% @List.map_map:=@List.map_map
theorem Z32:type_of% @List.length_set:=@List.length_set
theorem Z33:type_of% @Nat.lt_irrefl:=@Nat.lt_irrefl
theorem Z34:type_of% @List.length_filter_le:=@List.length_filter_le
theorem Z35:type_of% @List.append_nil:=@List.append_nil
theorem Z36:type_of% @List.mem_append_right:=@List.mem_append_right
theorem Z37:type_of% @List.mem_append_left:=@List.mem_append_left
theorem Z38:type_of% @Nat.le_of_lt:=@Nat.le_of_lt
theorem Z39:type_of% @List.flatten_cons:=@List.flatten_cons
theorem Z40:type_of% @List.foldl_cons:=@List.foldl_cons
theorem Z42:type_of% @Int.le_refl:=@Int.le_refl
theorem Z44:type_of% @List.find?_cons:=@List.find?_cons
theorem Z45:type_of% @Nat.le_add_right:=@Nat.le_add_right
theorem Z47:type_of% @Bool.false_eq_true:=@Bool.false_eq_true
theorem Z48:type_of% @List.pairwise_append:=@List.pairwise_append
theorem Z50:type_of% @List.all_eq_true:=@List.all_eq_true
theorem Z51:type_of% @List.cons_append:=@List.cons_append
theorem Z55:type_of% @PySem.wpAny_bind:=@PySem.wpAny_bind
theorem Z56:type_of% @PySem.wpAny_pure:=@PySem.wpAny_pure
theorem Z58:type_of% @List.length_cons:=@List.length_cons
namespace L2
open PySem PySem.Spec PyProof.Rows
noncomputable abbrev Key:=Sum Int Str
noncomputable def jx:Key->Value->Bool
 | .inl k,v=>Value.isInt k v
 | .inr x,v=>Value.isStrOf x v
noncomputable def El (w:World):Key->Int
 | .inl k=>hashInt k
 | .inr x=>hashStr w x
theorem aK:∀ {k:Key} {v:Value},jx k v=true->(∃ i t,k=Sum.inl i/\v=Value.int i t)∨(∃ x t,k=Sum.inr x/\v=Value.str x t)
 | .inl i,v,h=>by
   obtain ⟨t,e⟩:=Value.isInt_shape (k:=i) (v:=v) h
   exact .inl ⟨i,t,rfl,e⟩
 | .inr x,v,h=>by
   obtain ⟨t,e⟩:=Value.isStrOf_shape (x:=x) (v:=v) h
   exact .inr ⟨x,t,rfl,e⟩
theorem qm (i:Int) (t:Tok):jx (.inl i) (.int i t)=true:=by simp [jx,Value.isInt]
theorem qo (x:Str) (t:Tok):jx (.inr x) (.str x t)=true:=by simp [jx,Value.isStrOf]
theorem zJ (a b:Int):decide ((Sum.inl a:Key)=Sum.inl b)=(a == b):=by
 by_cases e:a=b
 · subst e; simp
 · have h:¬ (Sum.inl a:Key)=Sum.inl b:=fun q=>e (Sum.inl.inj q)
   rw [decide_eq_false h]
   exact (beq_eq_false_iff_ne.mpr e).symm
theorem zK (a b:Str):decide ((Sum.inr a:Key)=Sum.inr b)=decide (a=b):=by
 by_cases e:a=b
 · subst e; simp
 · have h:¬ (Sum.inr a:Key)=Sum.inr b:=fun q=>e (Sum.inr.inj q)
   rw [decide_eq_false h,decide_eq_false e]
theorem zL (a:Int) (b:Str):decide ((Sum.inl a:Key)=Sum.inr b)=false:=decide_eq_false (fun q=>nomatch q)
theorem zM (a:Str) (b:Int):decide ((Sum.inr a:Key)=Sum.inl b)=false:=decide_eq_false (fun q=>nomatch q)
noncomputable def aI (prog:Program) (w:World):PySem.KeyKind prog w Key where
 is:=jx
 hash:=El w
 inj:=fun v a b ha hb=>by
   rcases aK ha with ⟨i,t,rfl,rfl⟩ | ⟨x,t,rfl,rfl⟩
   · rcases aK hb with ⟨j,u,rfl,e⟩ | ⟨y,u,rfl,e⟩
     · injection e with e1 _; rw [e1]
     · exact nomatch e
   · rcases aK hb with ⟨j,u,rfl,e⟩ | ⟨y,u,rfl,e⟩
     · exact nomatch e
     · injection e with e1 _; rw [e1]
 byValue:=fun k v h=>by
   rcases aK h with ⟨i,t,rfl,rfl⟩ | ⟨x,t,rfl,rfl⟩ <;> rfl
 pyHash:=fun hv h=>by
   rcases aK hv with ⟨i,t,rfl,rfl⟩ | ⟨x,t,rfl,rfl⟩
   · exact wpAny_pyHash_int h
   · exact wpAny_pyHash_str h
 eqBool:=fun hu hv h=>by
   rcases aK hu with ⟨i,t,rfl,rfl⟩ | ⟨x,t,rfl,rfl⟩
   · rcases aK hv with ⟨j,u,rfl,rfl⟩ | ⟨y,u,rfl,rfl⟩
     · rw [zJ] at h; exact wpAny_eqBool_int h
     · rw [zL] at h; exact SeqAt.EqAt.int_str i t y u _ _ _ _ h
   · rcases aK hv with ⟨j,u,rfl,rfl⟩ | ⟨y,u,rfl,rfl⟩
     · rw [zM] at h; exact SeqAt.EqAt.str_int x t j u _ _ _ _ h
     · rw [zK] at h; exact wpAny_eqBool_str h
 «strs»:=fun k x t v h=>by
   rcases aK h with ⟨i,u,rfl,e⟩ | ⟨y,u,rfl,e⟩
   · exact nomatch e
   · injection e with e1 _
     subst e1
     cases v <;> rfl
theorem lV (prog:Program) (w:World) (i:Int) (t:Tok):(aI prog w).is (.inl i) (.int i t)=true:=qm i t
theorem lW (prog:Program) (w:World) (x:Str) (t:Tok):(aI prog w).is (.inr x) (.str x t)=true:=qo x t
set_option genInjectivity true in
inductive V where
 | non | bl (b:Bool) | int (i:Int) | str (x:Str) | byt (b:Array UInt8) | flt (b:UInt64) | ref (a:Addr) | ty (n:String)
 deriving DecidableEq
noncomputable def RelV:V->Value->Prop
 | .non,u=>u=Value.none
 | .bl b,u=>u=Value.bool b
 | .int i,u=>∃ t,u=Value.int i t
 | .str x,u=>∃ t,u=Value.str x t
 | .byt b,u=>∃ t,u=Value.bytes b t
 | .flt b,u=>∃ t,u=Value.float b t
 | .ref a,u=>u=Value.ref a
 | .ty n,u=>u=Value.type n
noncomputable abbrev Vals:List V->List Value->Prop:=Paired RelV
theorem Vals.length {xs:List V} {us:List Value} (r:Vals xs us):xs.length=us.length:=Paired.length r
theorem Vals.get:∀ {xs:List V} {us:List Value} {i:Nat} {x:V},Vals xs us->xs[i]?=some x->∃ u,us[i]?=some u/\RelV x u
 | _,_,_,_,.nil,e=>by simp at e
 | _,_,0,_,.cons r _,e=>by simp at e; subst e; exact ⟨_,rfl,r⟩
 | _,_,i+1,x,.cons _ t,e=>by
   obtain ⟨u,h1,h2⟩:=Vals.get (i:=i) (x:=x) t (by simpa using e)
   exact ⟨u,by simpa using h1,h2⟩
theorem Vals.set {x:V} {u:Value} (r:RelV x u):∀ {xs:List V} {us:List Value} (i:Nat),Vals xs us->Vals (xs.set i x) (us.set i u)
 | _,_,_,.nil=>.nil
 | _,_,0,.cons _ t=>.cons r t
 | _,_,i+1,.cons q t=>.cons q (Vals.set r i t)
theorem Vals.append:∀ {xs ys:List V} {us ws:List Value},Vals xs us->Vals ys ws->Vals (xs++ys) (us++ws)
 | _,_,_,_,.nil,s=>s
 | _,_,_,_,.cons r t,s=>.cons r (Vals.append t s)
theorem Vals.take:∀ {xs:List V} {us:List Value} (n:Nat),Vals xs us->Vals (xs.take n) (us.take n)
 | _,_,0,_=>.nil
 | _,_,_+1,.nil=>.nil
 | _,_,n+1,.cons r t=>.cons r (Vals.take n t)
theorem Vals.drop:∀ {xs:List V} {us:List Value} (n:Nat),Vals xs us->Vals (xs.drop n) (us.drop n)
 | _,_,0,r=>r
 | _,_,_+1,.nil=>.nil
 | _,_,n+1,.cons _ t=>Vals.drop n t
noncomputable def RelO:Option V->Option Value->Prop
 | some v,some u=>RelV v u
 | none,none=>True
 | _,_=>False
noncomputable def KV {κ:Type}:List (κ × V)->List (κ × Value)->Prop:=Paired fun (p:κ × V) (q:κ × Value)=>p.1=q.1/\RelV p.2 q.2
noncomputable def kV:Key->V
 | .inl i=>.int i
 | .inr x=>.str x
set_option genInjectivity true in
inductive HO where
 | lst (xs:List V)
 | tup (xs:List V)
 | dK (kvs:List (Key × V)) | dT (kvs:List (List Key × V))
 | set (S:Int->Bool) (n:Nat)
 | ins (C dx:Addr) (fs:List (Str × V))
 | own (x:Addr)
 | xd (fs:List (Str × V))
 | met (f x:Addr)
 | rng (lo hi:Int)
 | frz (o:Obj) (u:HO)
 | tbl (ps:Array Value)
 | ext (φ:Heap->Prop)
noncomputable abbrev Hp:=Addr->Option HO
noncomputable def upd (H:Hp) (a:Addr) (o:HO):Hp:=fun b=>if b=a then some o else H b
theorem ar {H:Hp} {a:Addr} {o:HO}:upd H a o a=some o:=by unfold upd; rw [if_pos rfl]
theorem au {H:Hp} {a b:Addr} {o:HO} (h:b ≠ a):upd H a o b=H b:=by unfold upd; rw [if_neg h]
theorem Ck {H:Hp} {a b:Addr} {o u:HO} (h:H a=some o) (h':H b=some u) (d:o ≠ u):a ≠ b:=by
 intro e; subst e; rw [h] at h'; exact d (Z27 h')
theorem aw {H:Hp} {a b:Addr} {o:HO} (h:H a=some o) (h':H b=none):a ≠ b:=by
 intro e; subst e; rw [h] at h'; cases h'
section
variable (P:Program) (w:World)
noncomputable def ObjOk (H:Hp) (h:Heap) (a:Addr):HO->Prop
 | .lst xs=>xs.length<=sizeLine/\∃ (its:List Value) (n:Nat),Vals xs its/\h.get? a=some { cls:=.type "list",data:=.seq its.toArray n }
 | .tup xs=>xs.length<=sizeLine/\∃ its:List Value,Vals xs its/\IsTup h a its.toArray
 | .dK kvs=>kvs.length<=sizeLine/\(a == sysModules)=false/\∃ vs,KV kvs vs/\h.DictOf (aI P w) a vs
 | .dT kvs=>kvs.length<=sizeLine/\(a == sysModules)=false/\∃ xs:List (List Key × Addr × Value),
     Paired (fun (p:List Key × V) (q:List Key × Addr × Value)=>p.1=q.1/\H q.2.1=some (.tup (p.1.map kV))/\RelV p.2 q.2.2) kvs xs /\
     ∃ o es ep,h.get? a=some o/\o.ExactDict/\o.data=.dict es ep/\es.toList=xs.map (entryOfKey (tupleKind (aI P w)))/\(xs.map (·.1)).Nodup
 | .set S n=>h.SetOf (intKind P w) a S n
 | .ins C dx fs=>H dx=some (.own a)/\fs.length<=1000/\dx ≠ a/\h.get? a=some (PySem.W.instObj C dx) /\
     ∃ mA,h.Ns1 dx mA/\(∀ f,RelO (fs.lookup f) (mA f))/\PySem.Within mA (fs.map (·.1))
 | .own _=>∃ o,h.get? a=some o
 | .xd fs=>∃ mA,h.Ns1 a mA/\∀ f,RelO (fs.lookup f) (mA f)
 | .rng lo hi=>∃ t u v,h.get? a=some { cls:=.type "range",data:=.fields #[.int lo t,.int hi u,.int 1 v] }
 | .frz o u=>h.get? a=some o/\ObjOk H h a u
 | .tbl ps=>h.get? a=some { cls:=.none,data:=.fields ps }
 | .met f x=>h.get? a=some (PySem.W.methodObj (.ref f) (.ref x))
 | .ext φ=>φ h/\(∃ o,h.get? a=some o)/\∀ h1 h2:Heap,φ h1->(∀ o,h1.get? a=some o->h2.get? a=some o)->φ h2
noncomputable def HOk (H:Hp) (h:Heap):Prop:=∀ a o,H a=some o->ObjOk P w H h a o
end
section
variable {P:Program} {w:World} {H H':Hp} {h h':Heap} {a:Addr} {o:HO}
theorem ObjOk.lt (x:ObjOk P w H h a o):a < h.objs.size:=by
 cases o with
 | lst xs=>obtain ⟨_,_,_,_,e⟩:=x; exact Z13 e
 | tup xs=>obtain ⟨_,_,_,p⟩:=x; exact p.lt
 | dK kvs=>obtain ⟨_,_,_,_,o,_,_,e,_⟩:=x; exact Z13 e
 | dT kvs=>obtain ⟨_,_,_,_,o,_,_,e,_⟩:=x; exact Z13 e
 | set S n=>obtain ⟨o,_,_,_,e,_⟩:=x; exact Z13 e
 | ins C dx fs=>obtain ⟨_,_,_,e,_⟩:=x; exact Z13 e
 | own y=>obtain ⟨_,e⟩:=x; exact Z13 e
 | xd fs=>obtain ⟨_,⟨_,_,_,e,_⟩,_⟩:=x; exact Z13 e
 | rng lo hi=>obtain ⟨_,_,_,e⟩:=x; exact Z13 e
 | frz ob u=>obtain ⟨e,_⟩:=x; exact Z13 e
 | tbl ps=>exact Z13 (show h.get? a=some _ from x)
 | met f y=>exact Z13 (show h.get? a=some _ from x)
 | ext φ=>obtain ⟨_,⟨_,e⟩,_⟩:=x; exact Z13 e
theorem Paired.mapP {α β:Type} {F G:α->β->Prop}:∀ {l₁:List α} {l₂:List β},Paired F l₁ l₂->(∀ a b,F a b->G a b)->Paired G l₁ l₂
 | _,_,.nil,_=>.nil
 | _,_,.cons r t,f=>.cons (f _ _ r) (Paired.mapP t f)
theorem ObjOk.stay (x:ObjOk P w H h a o) (k:∀ b u,(b=a∨H b=some (.own a))->h.get? b=some u->h'.get? b=some u)
   (ho:∀ b,H b=some (.own a)->H' b=some (.own a)) (ht:∀ b xs,H b=some (.tup xs)->H' b=some (.tup xs)):ObjOk P w H' h' a o:=by
 induction o with
 | lst xs=>obtain ⟨z,its,n,r,e⟩:=x; exact ⟨z,its,n,r,k _ _ (.inl rfl) e⟩
 | tup xs=>obtain ⟨z,its,r,ob,e,c⟩:=x; exact ⟨z,its,r,ob,k _ _ (.inl rfl) e,c⟩
 | dK kvs=>obtain ⟨z,y,vs,r,ob,es,ep,e,c⟩:=x; exact ⟨z,y,vs,r,ob,es,ep,k _ _ (.inl rfl) e,c⟩
 | dT kvs=>
   obtain ⟨z,y,xs,r,ob,es,ep,e,c⟩:=x
   exact ⟨z,y,xs,Paired.mapP r fun p q z=>⟨z.1,ht _ _ z.2.1,z.2.2⟩,ob,es,ep,k _ _ (.inl rfl) e,c⟩
 | set S n=>obtain ⟨ob,es,ep,t,e,c⟩:=x; exact ⟨ob,es,ep,t,k _ _ (.inl rfl) e,c⟩
 | ins C dx fs=>
   obtain ⟨d,z,ne,e,mA,⟨od,es,ep,e2,c⟩,r⟩:=x
   exact ⟨ho _ d,z,ne,k _ _ (.inl rfl) e,mA,⟨od,es,ep,k _ _ (.inr d) e2,c⟩,r⟩
 | own y=>obtain ⟨ob,e⟩:=x; exact ⟨ob,k _ _ (.inl rfl) e⟩
 | xd fs=>obtain ⟨mA,⟨od,es,ep,e,c⟩,r⟩:=x; exact ⟨mA,⟨od,es,ep,k _ _ (.inl rfl) e,c⟩,r⟩
 | rng lo hi=>obtain ⟨t,u,v,e⟩:=x; exact ⟨t,u,v,k _ _ (.inl rfl) e⟩
 | frz ob u ih=>obtain ⟨e,q⟩:=x; exact ⟨k _ _ (.inl rfl) e,ih q⟩
 | tbl ps=>
   have e:h.get? a=some { cls:=.none,data:=.fields ps }:=x
   show h'.get? a=some { cls:=.none,data:=.fields ps }
   exact k a _ (.inl rfl) e
 | met f y=>
   have e:h.get? a=some (PySem.W.methodObj (.ref f) (.ref y)):=x
   show h'.get? a=some (PySem.W.methodObj (.ref f) (.ref y))
   exact k a _ (.inl rfl) e
 | ext φ=>obtain ⟨p,⟨o,e⟩,st⟩:=x; exact ⟨st _ _ p fun o q=>k _ _ (.inl rfl) q,⟨o,k _ _ (.inl rfl) e⟩,st⟩
theorem HOk.lt (x:HOk P w H h) (e:H a=some o):a < h.objs.size:=(x a o e).lt
theorem HOk.fresh (x:HOk P w H h) (e:h.objs.size<=a):H a=none:=by
 cases q:H a with
 | none=>rfl
 | some u=>exact absurd (Z15 (x.lt q) e) (Z33 _)
theorem HOk.kept (x:HOk P w H h) (k:∀ b u,h.get? b=some u->h'.get? b=some u):HOk P w H h':=fun a o e=>
 (x a o e).stay (fun b u _ q=>k b u q) (fun _ q=>q) fun _ _ q=>q
theorem HOk.laid (x:HOk P w H h) (k:∀ b u,h.get? b=some u->h'.get? b=some u) (hp:h.objs.size<=a) (new:ObjOk P w (upd H a o) h' a o):HOk P w (upd H a o) h':=fun b u e=>by
 have hn:=x.fresh hp
 by_cases hb:b=a
 · subst hb; rw [ar] at e; cases e; exact new
 · rw [au hb] at e
   exact (x b u e).stay (fun c v _ q=>k c v q) (fun c q=>by rw [au (aw q hn)]; exact q) fun c xs q=>by rw [au (aw q hn)]; exact q
end
noncomputable def Rd (H:Hp) (a:Addr) (u:HO):Prop:=H a=some u∨∃ o,H a=some (.frz o u)
theorem Rd.ok {P:Program} {w:World} {H:Hp} {h:Heap} {a:Addr} {u:HO} (r:Rd H a u) (x:HOk P w H h):ObjOk P w H h a u:=by
 rcases r with r | ⟨o,r⟩
 · exact x a u r
 · obtain ⟨_,q⟩:=x a _ r
   exact q
noncomputable def Mut:Option HO->Prop
 | some (.lst _)=>True
 | some (.dK _)=>True
 | some (.dT _)=>True
 | some (.set _ _)=>True
 | some (.ins _ _ _)=>True
 | some (.ext _)=>True
 | _=>False
section
variable {P:Program} {w:World} {H:Hp} {h h':Heap} {x e:Addr} {o':HO}
theorem HOk.write (ok:HOk P w H h) (mu:Mut (H x)) (he:e=x∨H e=some (.own x)) (k:∀ b u,b ≠ e->h.get? b=some u->h'.get? b=some u) (heo:∃ u,h'.get? e=some u)
   (new:ObjOk P w (upd H x o') h' x o'):HOk P w (upd H x o') h':=fun b u q=>by
 have nown:∀ c y,H c=some (.own y)->c ≠ x:=fun c y r z=>by subst z; rw [r] at mu; exact mu
 have ntup:∀ c xs,H c=some (.tup xs)->c ≠ x:=fun c xs r z=>by subst z; rw [r] at mu; exact mu
 by_cases hb:b=x
 · subst hb; rw [ar] at q; cases q; exact new
 · rw [au hb] at q
   by_cases hbe:b=e
   · have q':H b=some (.own x):=by
       rcases he with z | z
       · exact absurd (hbe.trans z) hb
       · rw [hbe]; exact z
     rw [q] at q'; cases q'
     obtain ⟨v,hv⟩:=heo
     exact ⟨v,by rw [hbe]; exact hv⟩
   · refine (ok b u q).stay (fun c v hc r=>k c v ?_ r) (fun c r=>by rw [au (nown c b r)]; exact r) fun c xs r=>by rw [au (ntup c xs r)]; exact r
     rcases hc with rfl | hc
     · exact hbe
     · rintro rfl
       rcases he with z | z
       · exact nown c b hc z
       · rw [hc] at z; cases z; exact hb rfl
end
structure Un (fs ex:List Addr) (H H':Hp) (h h':Heap):Prop where
 keep:∀ b o,h.get? b=some o->H b=none->b ∉ fs->b ∉ ex->h'.get? b=some o
 slot:∀ b o,h.get? b=some o->H b=none->b ∈ fs->b ∉ ex->∃ sl,h'.get? b=some { o with slots:=sl }
 free:∀ b o,h.get? b=some o->H b=none->b ∉ ex->H' b=none
 there:∀ b o,h.get? b=some o->b ∉ ex->∃ o',h'.get? b=some o'
 tups:∀ b xs,H b=some (.tup xs)->H' b=some (.tup xs)
 frzs:∀ b o u,H b=some (.frz o u)->H' b=some (.frz o u)
 tbls:∀ b ps,H b=some (.tbl ps)->∃ more,H' b=some (.tbl (ps++more))
section
variable {fs fs' ex ex':List Addr} {H H1 H2:Hp} {h h1 h2 h':Heap} {a x e:Addr} {o:HO}
theorem Un.any (u:Un fs ex H H1 h h1) {b:Addr} {ob:Obj} (q:h.get? b=some ob) (n:H b=none) (hx:b ∉ ex):∃ sl,h1.get? b=some { ob with slots:=sl }:=by
 by_cases hb:b ∈ fs
 · exact u.slot b ob q n hb hx
 · exact ⟨ob.slots,u.keep b ob q n hb hx⟩
theorem Un.kept (k:∀ b u,h.get? b=some u->h'.get? b=some u):Un fs ex H H h h':=
 ⟨fun b ob q _ _ _=>k b ob q,fun b ob q _ _ _=>⟨ob.slots,k b ob q⟩,fun _ _ _ n _=>n,fun b ob q _=>⟨ob,k b ob q⟩,fun _ _ q=>q,fun _ _ _ q=>q,fun _ ps q=>⟨#[],by rw [q]; simp⟩⟩
theorem Un.refl:Un fs ex H H h h:=Un.kept fun _ _ q=>q
theorem Un.laid (k:∀ b u,h.get? b=some u->h'.get? b=some u) (hp:h.objs.size<=a) (hn:H a=none):Un fs ex H (upd H a o) h h' where
 keep:=fun b u q _ _ _=>k b u q
 slot:=fun b u q _ _ _=>⟨u.slots,k b u q⟩
 free:=fun b u q n _=>by rw [au (Z26 (Z15 (Z13 q) hp))]; exact n
 there:=fun b u q _=>⟨u,k b u q⟩
 tups:=fun b xs q=>by rw [au (aw q hn)]; exact q
 frzs:=fun b u xs q=>by rw [au (aw q hn)]; exact q
 tbls:=fun b ps q=>⟨#[],by rw [au (aw q hn),q]; simp⟩
theorem Un.write (mu:Mut (H x)) (he:e=x∨H e=some (.own x)) (k:∀ b u,b ≠ e->h.get? b=some u->h'.get? b=some u) (heo:∃ u,h'.get? e=some u):Un fs ex H (upd H x o) h h':=by
 have hx:∀ b,H b=none->b ≠ x:=fun b n z=>by subst z; rw [n] at mu; exact mu
 have hb:∀ b,H b=none->b ≠ e:=fun b n z=>by
   subst z
   rcases he with r | r
   · exact hx b n r
   · rw [n] at r; cases r
 have hm:∀ b u,H b=some u->¬ Mut (some u)->b ≠ x:=fun b u q nm z=>by subst z; rw [q] at mu; exact nm mu
 refine ⟨fun b u q n _ _=>k b u (hb b n) q,fun b u q n _ _=>⟨u.slots,k b u (hb b n) q⟩,fun b u q n _=>by rw [au (hx b n)]; exact n,fun b u q _=>?_,
   fun b xs q=>by rw [au (hm b _ q fun z=>z)]; exact q,fun b u xs q=>by rw [au (hm b _ q fun z=>z)]; exact q,fun b ps q=>⟨#[],by rw [au (hm b _ q fun z=>z),q]; simp⟩⟩
 by_cases hbe:b=e
 · subst hbe; exact heo
 · exact ⟨u,k b u hbe q⟩
end
noncomputable def trk (h:Heap) (H:Hp):List Addr:=(List.range h.objs.size).filter fun a=>(H a).isSome
noncomputable def kH (h:Heap) (H:Hp):Heap:=PySem.W.hideAll h (trk h H)
theorem qq (h:Heap) (H:Hp):(kH h H).objs.size=h.objs.size:=PySem.W.hideAll_size _ _
theorem sr {h:Heap} {H:Hp} {b:Addr} {o:Obj} (e:h.get? b=some o) (n:H b=none):(kH h H).get? b=some o:=
 PySem.W.hideAll_get _ e fun hm=>by
   have q:(H b).isSome=true:=(List.mem_filter.mp hm).2
   rw [n] at q; simp at q
theorem vJ {h:Heap} {H:Hp} {b:Addr} {o:Obj} (e:(kH h H).get? b=some o):h.get? b=some o/\H b=none:=by
 have e':h.get? b=some o:=PySem.W.of_hideAll (trk h H) e
 refine ⟨e',?_⟩
 cases q:H b with
 | none=>rfl
 | some x=>
   have hm:b ∈ trk h H:=List.mem_filter.mpr ⟨List.mem_range.mpr (Z13 e'),by simp [q]⟩
   have z:(kH h H).get? b=none:=PySem.W.hideAll_none (trk h H) hm
   rw [z] at e; cases e
noncomputable def vK (g h:Heap) (L:Addr):List (Addr × Obj):=(List.range h.objs.size).filterMap fun a=>if a=L∨(g.get? a).isSome=true then none else (h.get? a).map fun o=>(a,o)
noncomputable def aY (g h:Heap) (L d:Addr):List (Addr × Obj):=(vK g h L).filter fun p=>decide (p.1 ≠ d)
structure Mod (K:PySem.W.Frag) (mg:Str->Option Value) (base:Heap):Prop where
 kin:K.In base
 glob:base.Ns mainGlobals mg
 blt:∃ mb,base.Ns builtinsNs mb/\∀ x:Str,x ≠ "__name__"->mb x=bootBuiltins x
 nolimit:base.NoLimit
structure Cx where
 prog:Program
 w:World
 K:PySem.W.Frag
 mg:Str->Option Value
 base:Heap
 A:Around
 N:List Str
 s₀:Shared
 H₀:Hp
 env:Env
 outer:List Env
 stack:List Env
 ex:List Addr
 fn:Str->Bool
 calm:Bool
 pn:List (Addr × Obj)
 xe:Value->Shared->Prop
noncomputable def frs (l:List Env):List Addr:=l.filterMap (·.frame)
noncomputable abbrev Cx.fs (X:Cx):List Addr:=frs X.outer
noncomputable def Vis (sc:Scope) (x:Str):Prop:=sc.names.lookup x=some .local∨sc.names.lookup x=some .cell∨sc.names.lookup x=some .free
noncomputable def Loc (sc:Scope) (x:Str):Prop:=sc.names.lookup x=some .local∨sc.names.lookup x=some .cell
noncomputable def Em (env:Env) (h:Heap) (m:Str->Option Value) (x:Str) (u:Value):Prop:=
 (env.kindOf x=some .local/\m x=some u)∨((env.kindOf x=some .cell∨env.kindOf x=some .free)/\∃ c,env.cells.lookup x=some c/\h.IsCell c (some u))
structure Cx.Ok (X:Cx):Prop where
 mod:Mod X.K X.mg X.base
 kind:X.env.scope.kind=.function
 glob:X.env.globals=mainGlobals
 blt:X.env.builtins=builtinsNs
 above:X.s₀.heap.objs.size<=X.env.locals
 inj:∀ x y c,X.env.cells.lookup x=some c->X.env.cells.lookup y=some c->x=y
 has:∀ x,(X.env.kindOf x=some .cell∨X.env.kindOf x=some .free)->∃ c,X.env.cells.lookup x=some c
 cab:∀ x c,X.fn x=true->X.env.cells.lookup x=some c->X.s₀.heap.objs.size<=c
 hd:X.calm=true->X.A.handled=none
 frames:X.A.frames=some X.stack
 stk:X.stack=X.outer∨(X.stack=X.env::X.outer/\X.env.frame=some X.env.locals)
 exf:∀ b ∈ X.ex,b ≠ X.env.locals/\∀ x c,X.env.cells.lookup x=some c->c ≠ b
 bs:∀ b o,X.base.get? b=some o->X.s₀.heap.get? b=some o/\X.H₀ b=none
 bsz:X.base.objs.size<=X.s₀.heap.objs.size
 noex:∀ b o,X.base.get? b=some o->b ∉ X.ex
 exfs:∀ b ∈ X.ex,b ∉ X.fs
 funs:X.s₀.heap.FunFrames X.base X.outer
 frf:∀ b ∈ X.fs,X.H₀ b=none
structure Inv (X:Cx) (pins:List (Addr × Obj)) (σ:List (Option V)) (H:Hp) (s:Shared):Prop where
 ok:X.Ok
 os:s.os=X.s₀.os
 bare:AllBare s.gens
 base:Un X.fs X.ex X.H₀ H X.s₀.heap s.heap
 loc:∃ m,s.heap.Ns X.env.locals m/\∀ (i:Nat) (x:Str) (v:V),X.N[i]?=some x->σ[i]?=some (some v)->Vis X.env.scope x->∃ u,RelV v u/\Em X.env s.heap m x u
 cell:∀ x c,X.env.cells.lookup x=some c->∃ v,s.heap.IsCell c v
 free:H X.env.locals=none
 freeC:∀ x c,X.env.cells.lookup x=some c->H c=none
 pin:∀ p ∈ X.pn++pins,s.heap.get? p.1=some p.2/\H p.1=none/\p.1 ≠ X.env.locals/\p.1 ∉ X.fs/\∀ v,p.2.data ≠ .cell v
 hok:HOk X.prog X.w H s.heap
 len:σ.length=X.N.length
section
variable {X:Cx} {pins:List (Addr × Obj)} {σ:List (Option V)} {H H':Hp} {s:Shared} {h':Heap}
theorem Cx.Ok.nofr (ok:X.Ok) {b:Addr} {o:Obj} (e:X.base.get? b=some o):b ∉ X.fs:=fun hb=>by
 have:=(ok.funs.mem hb).1
 rw [e] at this; cases this
theorem Inv.bs (I:Inv X pins σ H s):∀ b o,X.base.get? b=some o->s.heap.get? b=some o/\H b=none:=fun b o e=>
 ⟨I.base.keep b o (I.ok.bs b o e).1 (I.ok.bs b o e).2 (I.ok.nofr e) (I.ok.noex b o e),I.base.free b o (I.ok.bs b o e).1 (I.ok.bs b o e).2 (I.ok.noex b o e)⟩
theorem Inv.bk (I:Inv X pins σ H s):∀ b o,X.base.get? b=some o->s.heap.get? b=some o:=fun b o e=>(I.bs b o e).1
theorem Inv.mod (I:Inv X pins σ H s):Mod X.K X.mg X.base:=I.ok.mod
theorem Inv.kIn (I:Inv X pins σ H s):X.K.In s.heap:=I.ok.mod.kin.keeps I.bk
theorem Inv.lt (I:Inv X pins σ H s):X.env.locals < s.heap.objs.size:=let ⟨_,hn,_⟩:=I.loc; hn.lt
theorem Inv.sz (I:Inv X pins σ H s):X.s₀.heap.objs.size<=s.heap.objs.size:=Z24 I.ok.above (Z38 I.lt)
theorem Inv.nofs (I:Inv X pins σ H s) {a:Addr} (h:s.heap.objs.size<=a):a ∉ X.fs:=fun hb=>by
 obtain ⟨_,o,ho,_⟩:=I.ok.funs.mem hb
 exact absurd (Z15 (Z13 ho) (Z24 I.sz h)) (Z33 _)
theorem Inv.cne (I:Inv X pins σ H s):∀ x c,X.env.cells.lookup x=some c->c ≠ X.env.locals:=fun x c e z=>by
 obtain ⟨v,o,ho,hd⟩:=I.cell x c e
 obtain ⟨m,⟨o',es,ep,ho',hd',_⟩,_⟩:=I.loc
 rw [z,ho'] at ho; cases ho; rw [hd'] at hd; cases hd
theorem Inv.funs (I:Inv X pins σ H s):s.heap.FunFrames X.base X.outer:=by
 have all:∀ (l:List Env),(∀ b ∈ frs l,b ∈ X.fs)->X.s₀.heap.FunFrames X.base l->s.heap.FunFrames X.base l:=by
   intro l
   induction l with
   | nil=>intro _ _; trivial
   | cons env r ih=>
     intro hs hl
     obtain ⟨hk,⟨L,o,hf,hn,ho,hd⟩,hr⟩:=hl
     have hL:L ∈ X.fs:=hs L (by unfold frs; rw [List.filterMap_cons,hf]; exact Z16)
     obtain ⟨sl,e⟩:=I.base.slot L o ho (I.ok.frf L hL) hL fun z=>I.ok.exfs L z hL
     exact ⟨hk,⟨L,_,hf,hn,e,hd⟩,ih (fun b hb=>hs b (by unfold frs; rw [List.filterMap_cons,hf]; exact Z8 _ hb)) hr⟩
 exact all X.outer (fun _ hb=>hb) I.ok.funs
theorem Inv.stack (I:Inv X pins σ H s):s.heap.FunFrames X.base X.stack:=by
 rcases I.ok.stk with e | ⟨e,hf⟩
 · rw [e]; exact I.funs
 · rw [e]
   obtain ⟨m,hn,_⟩:=I.loc
   refine .cons (by rw [I.ok.kind]; decide) hf hn ?_ I.funs
   exact Heap.get?_none_of_le (Z24 I.ok.bsz I.ok.above)
theorem Inv.stkSub (I:Inv X pins σ H s):∀ b ∈ frs X.stack,b ∈ X.env.locals::X.fs:=fun b hb=>by
 rcases I.ok.stk with e | ⟨e,hf⟩
 · rw [e] at hb; exact Z8 _ hb
 · rw [e] at hb
   unfold frs at hb
   rw [List.filterMap_cons,hf] at hb
   exact hb
theorem Inv.stkFree (I:Inv X pins σ H s):∀ b ∈ frs X.stack,H b=none:=fun b hb=>by
 rcases Z19.mp (I.stkSub b hb) with e | hb
 · rw [e]; exact I.free
 · obtain ⟨_,o,ho,_⟩:=I.ok.funs.mem hb
   exact I.base.free b o ho (I.ok.frf b hb) fun z=>I.ok.exfs b z hb
theorem Inv.step {g':Array GenState} {t':Nat} {d':Drawn} {ch:List Addr} (I:Inv X pins σ H s)
   (hch:∀ b ∈ ch,(b ∈ X.ex∨X.s₀.heap.objs.size<=b)/\b ≠ X.env.locals/\(∀ x c,X.env.cells.lookup x=some c->c ≠ b)/\∀ p ∈ X.pn++pins,p.1 ≠ b)
   (keep:∀ b o,b ≠ X.env.locals->b ∉ X.fs->b ∉ ch->s.heap.get? b=some o->H b=none->h'.get? b=some o)
   (slot:∀ b o,b ≠ X.env.locals->b ∈ X.fs->b ∉ ch->s.heap.get? b=some o->H b=none->∃ sl,h'.get? b=some { o with slots:=sl }) (free:∀ b o,b ∉ ch->s.heap.get? b=some o->H b=none->H' b=none)
   (there:∀ b o,b ∉ ch->s.heap.get? b=some o->∃ o',h'.get? b=some o')
   (tups:∀ b xs,H b=some (.tup xs)->H' b=some (.tup xs)) (frzs:∀ b o u,H b=some (.frz o u)->H' b=some (.frz o u)) (tbls:∀ b ps,H b=some (.tbl ps)->∃ more,H' b=some (.tbl (ps++more)))
   (ns:∀ m,s.heap.Ns X.env.locals m->h'.Ns X.env.locals m) (hok:HOk X.prog X.w H' h') (hg:AllBare g') :
   Inv X pins σ H' { s with heap:=h',gens:=g',drawn:=d',toks:=t' }:=by
 have neL:∀ b o,X.s₀.heap.get? b=some o->b ≠ X.env.locals:=fun b o e=>Z26 (Z15 (Z13 e) I.ok.above)
 have neC:∀ b o,X.s₀.heap.get? b=some o->b ∉ X.ex->b ∉ ch:=fun b o e hx hb=>by
   rcases (hch b hb).1 with z | z
   · exact hx z
   · exact absurd (Z15 (Z13 e) z) (Z33 _)
 have cellK:∀ x c,X.env.cells.lookup x=some c->∀ v,s.heap.IsCell c v->h'.IsCell c v:=fun x c e v ⟨o,ho,hd⟩=>by
   have nch:c ∉ ch:=fun z=>(hch c z).2.2.1 x c e rfl
   by_cases hc:c ∈ X.fs
   · obtain ⟨sl,q⟩:=slot c o (I.cne x c e) hc nch ho (I.freeC x c e)
     exact ⟨_,q,hd⟩
   · exact ⟨o,keep c o (I.cne x c e) hc nch ho (I.freeC x c e),hd⟩
 refine ⟨I.ok,I.os,hg,⟨fun b o e n hb hx=>?_,fun b o e n hb hx=>?_,fun b o e n hx=>?_,fun b o e hx=>?_,fun b xs e=>tups b xs (I.base.tups b xs e),fun b o xs e=>frzs b o xs (I.base.frzs b o xs e),fun b ps e=>?_⟩,?_,fun x c e=>?_,?_,fun x c e=>?_,fun p hp=>?_,hok,I.len⟩
 · exact keep b o (neL b o e) hb (neC b o e hx) (I.base.keep b o e n hb hx) (I.base.free b o e n hx)
 · obtain ⟨sl,e1⟩:=I.base.slot b o e n hb hx
   obtain ⟨sl',e2⟩:=slot b _ (neL b o e) hb (neC b o e hx) e1 (I.base.free b o e n hx)
   exact ⟨sl',e2⟩
 · obtain ⟨o',e1⟩:=I.base.there b o e hx
   exact free b o' (neC b o e hx) e1 (I.base.free b o e n hx)
 · obtain ⟨o',e1⟩:=I.base.there b o e hx
   exact there b o' (neC b o e hx) e1
 · obtain ⟨m1,e1⟩:=I.base.tbls b ps e
   obtain ⟨m2,e2⟩:=tbls b _ e1
   exact ⟨m1++m2,by rw [e2,Array.append_assoc]⟩
 · obtain ⟨m,hn,hl⟩:=I.loc
   refine ⟨m,ns m hn,fun i x v e1 e2 e3=>?_⟩
   obtain ⟨u,r,l⟩:=hl i x v e1 e2 e3
   refine ⟨u,r,?_⟩
   rcases l with l | ⟨k,c,e,z⟩
   · exact .inl l
   · exact .inr ⟨k,c,e,cellK x c e _ z⟩
 · obtain ⟨v,z⟩:=I.cell x c e
   exact ⟨v,cellK x c e v z⟩
 · obtain ⟨m,⟨o,_,_,ho,_⟩,_⟩:=I.loc
   exact free _ o (fun z=>(hch _ z).2.1 rfl) ho I.free
 · obtain ⟨v,o,ho,hd⟩:=I.cell x c e
   exact free c o (fun z=>(hch c z).2.2.1 x c e rfl) ho (I.freeC x c e)
 · obtain ⟨e,n,ne,nf,d⟩:=I.pin p hp
   have nch:p.1 ∉ ch:=fun z=>(hch p.1 z).2.2.2 p hp rfl
   exact ⟨keep p.1 p.2 ne nf nch e n,free p.1 p.2 nch e n,ne,nf,d⟩
theorem Inv.un {t':Nat} (I:Inv X pins σ H s) (u:Un X.fs [] H H' s.heap h') (hok:HOk X.prog X.w H' h'):Inv X pins σ H' { s with heap:=h',toks:=t' }:=by
 obtain ⟨m,⟨o,es,ep,ho,r⟩,_⟩:=id I.loc
 obtain ⟨sl,hL⟩:=u.any ho I.free (by simp)
 exact I.step (g':=s.gens) (d':=s.drawn) (ch:=[]) (fun _ z=>nomatch z) (fun b o _ hb _ e n=>u.keep b o e n hb (by simp)) (fun b o _ hb _ e n=>u.slot b o e n hb (by simp)) (fun b o _ e n=>u.free b o e n (by simp)) (fun b o _ e=>u.there b o e (by simp)) u.tups u.frzs u.tbls (fun m' hm=>by
   obtain ⟨o',es',ep',ho',r'⟩:=hm
   rw [ho] at ho'; cases ho'
   exact ⟨_,es',ep',hL,r'⟩) hok I.bare
theorem Inv.call {g':Array GenState} {t':Nat} {d':Drawn} {ch:List Addr} (I:Inv X pins σ H s) (u:Un (frs X.stack) ch H H' s.heap h') (hok:HOk X.prog X.w H' h') (hg:AllBare g')
   (hch:∀ b ∈ ch,(b ∈ X.ex∨X.s₀.heap.objs.size<=b)/\b ≠ X.env.locals/\(∀ x c,X.env.cells.lookup x=some c->c ≠ b)/\∀ p ∈ X.pn++pins,p.1 ≠ b) :
   Inv X pins σ H' { s with heap:=h',gens:=g',drawn:=d',toks:=t' }:=by
 obtain ⟨m,⟨o,es,ep,ho,r⟩,_⟩:=id I.loc
 obtain ⟨sl,hL⟩:=u.any ho I.free fun z=>(hch _ z).2.1 rfl
 exact I.step (ch:=ch) hch (fun b o hL hb hc e n=>u.keep b o e n (fun z=>(Z19.mp (I.stkSub b z)).elim hL hb) hc) (fun b o _ _ hc e n=>u.any e n hc) (fun b o hc e n=>u.free b o e n hc) (fun b o hc e=>u.there b o e hc) u.tups u.frzs u.tbls (fun m' hm=>by
   obtain ⟨o',es',ep',ho',r'⟩:=hm
   rw [ho] at ho'; cases ho'
   exact ⟨_,es',ep',hL,r'⟩) hok hg
theorem Inv.turned {t':Nat} {it:Addr} (I:Inv X pins σ H s) (k:∀ b o,b ≠ it->s.heap.get? b=some o->h'.get? b=some o) (hn:H it=none) (hL:it ≠ X.env.locals)
   (h1:it ∈ X.ex∨X.s₀.heap.objs.size<=it) (h2:∀ x c,X.env.cells.lookup x=some c->c ≠ it) (h3:∀ p ∈ X.pn++pins,p.1 ≠ it):Inv X pins σ H { s with heap:=h',toks:=t' }:=by
 have nit:∀ b u,H b=some u->b ≠ it:=fun b u e z=>by rw [z,hn] at e; cases e
 refine I.step (g':=s.gens) (d':=s.drawn) (ch:=[it]) (fun b hb=>?_) (fun b o _ _ hc e _=>k b o (fun z=>hc (by simp [z])) e) (fun b o _ _ hc e _=>⟨o.slots,k b o (fun z=>hc (by simp [z])) e⟩) (fun _ _ _ _ n=>n)
   (fun b o hc e=>⟨o,k b o (fun z=>hc (by simp [z])) e⟩) (fun _ _ e=>e) (fun _ _ _ e=>e) (fun b ps e=>⟨#[],by rw [e]; simp⟩) (fun m hm=>?_) (fun b u e=>?_) I.bare
 · have e:b=it:=by simpa using hb
   subst e
   exact ⟨h1,hL,h2,h3⟩
 · obtain ⟨o,es,ep,ho,r⟩:=hm
   exact ⟨o,es,ep,k _ o (Ne.symm hL) ho,r⟩
 · refine (I.hok b u e).stay (fun c v hc q=>k c v ?_ q) (fun _ q=>q) fun _ _ q=>q
   rcases hc with z | z
   · rw [z]; exact nit b u e
   · exact nit c _ z
theorem Inv.tok (I:Inv X pins σ H s) (t:Nat):Inv X pins σ H { s with toks:=t }:=I.un (h':=s.heap) (t':=t) Un.refl I.hok
theorem Inv.kept {t':Nat} (I:Inv X pins σ H s) (k:∀ b u,s.heap.get? b=some u->h'.get? b=some u):Inv X pins σ H { s with heap:=h',toks:=t' }:=I.un (Un.kept k) (I.hok.kept k)
theorem Inv.laid {a:Addr} {o:HO} {t':Nat} (I:Inv X pins σ H s) (k:∀ b u,s.heap.get? b=some u->h'.get? b=some u) (hp:s.heap.objs.size<=a) (new:ObjOk X.prog X.w (upd H a o) h' a o) :
   Inv X pins σ (upd H a o) { s with heap:=h',toks:=t' }:=I.un (Un.laid k hp (I.hok.fresh hp)) (I.hok.laid k hp new)
theorem Inv.write {x e:Addr} {o:HO} {t':Nat} (I:Inv X pins σ H s) (mu:Mut (H x)) (he:e=x∨H e=some (.own x)) (k:∀ b u,b ≠ e->s.heap.get? b=some u->h'.get? b=some u) (heo:∃ u,h'.get? e=some u)
   (new:ObjOk X.prog X.w (upd H x o) h' x o):Inv X pins σ (upd H x o) { s with heap:=h',toks:=t' }:=I.un (Un.write mu he k heo) (I.hok.write mu he k heo new)
theorem Inv.pins_of {pins':List (Addr × Obj)} (I:Inv X pins σ H s) (h:∀ p ∈ pins',s.heap.get? p.1=some p.2/\H p.1=none/\p.1 ≠ X.env.locals/\p.1 ∉ X.fs/\∀ v,p.2.data ≠ .cell v):Inv X pins' σ H s:=
 ⟨I.ok,I.os,I.bare,I.base,I.loc,I.cell,I.free,I.freeC,fun p hp=>(Z11.mp hp).elim (fun z=>I.pin p (Z37 _ z)) (h p),I.hok,I.len⟩
theorem lX {N:List Str} (hN:N.Nodup) {i j:Nat} {x:Str} (a:N[i]?=some x) (b:N[j]?=some x):i=j:=by
 obtain ⟨h1,e1⟩:=Z9.mp a
 obtain ⟨h2,e2⟩:=Z9.mp b
 exact (List.getElem_inj hN).mp (e1.trans e2.symm)
theorem qr {M:Model} {A:Around} {E:Value->Shared->Prop} {i:Nat} {x:Str} {v:V} {u:Value} {Q:Unit->Shared->Prop} (I:Inv X pins σ H s) (hN:X.N.Nodup) (hi:X.N[i]?=some x) (hx:Loc X.env.scope x) (r:RelV v u)
   (h:∀ s',Inv X pins (σ.set i (some v)) H s'->(∃ a,Heap.SameBut a s.heap s'.heap/\(a=X.env.locals∨X.env.cells.lookup x=some a))->Q () s') (hf:X.fn x=true∨X.env.scope.names.lookup x=some .local:=by first | exact .inl rfl | exact .inr rfl | assumption):wpAny M A (storeName X.env x u) Q E s:=by
 obtain ⟨m,hn,hl⟩:=id I.loc
 have hcls:(X.env.scope.kind == .class || (X.env.scope.kind == .module && X.env.locals != X.env.globals))=false:=by rw [I.ok.kind]; rfl
 have hiσ:i < σ.length:=by rw [I.len]; exact (Z9.mp hi).1
 have cne:=I.cne
 have tracked:∀ {a:Addr} {h':Heap},(∃ o,s.heap.get? a=some o/\H a=none)->Heap.SameBut a s.heap h'->HOk X.prog X.w H h':=fun {a h'} ha hs b ob e=>by
   obtain ⟨_,_,hfree⟩:=ha
   refine (I.hok b ob e).stay (fun c w' hc q=>(hs.2 c ?_).trans q) (fun _ q=>q) fun _ _ q=>q
   rintro rfl
   rcases hc with rfl | hc
   · rw [hfree] at e; cases e
   · rw [hfree] at hc; cases hc
 rcases hx with hk | hk
 · refine wpAny_storeName_local hk hn (fun h' hn' hs=>?_) hcls
   obtain ⟨oL,_,_,hoL,_⟩:=id hn
   refine h _ ⟨I.ok,I.os,I.bare,⟨fun b o e n hb hx=>?_,fun b o e n hb hx=>?_,I.base.free,fun b o e hx=>?_,I.base.tups,I.base.frzs,I.base.tbls⟩,⟨_,hn',fun j y v' e1 e2 e3=>?_⟩,fun y c e=>?_,I.free,I.freeC,fun p hp=>?_,tracked ⟨oL,hoL,I.free⟩ hs,by simpa using I.len⟩ ⟨_,hs,.inl rfl⟩
   · exact (hs.2 b (Z26 (Z15 (Z13 e) I.ok.above))).trans (I.base.keep b o e n hb hx)
   · obtain ⟨sl,e1⟩:=I.base.slot b o e n hb hx
     exact ⟨sl,(hs.2 b (Z26 (Z15 (Z13 e) I.ok.above))).trans e1⟩
   · obtain ⟨o',e1⟩:=I.base.there b o e hx
     exact ⟨o',(hs.2 b (Z26 (Z15 (Z13 e) I.ok.above))).trans e1⟩
   · by_cases hj:j=i
     · subst hj
       rw [hi] at e1; cases e1
       rw [List.getElem?_set_self hiσ] at e2
       cases e2
       exact ⟨u,r,.inl ⟨hk,by simp⟩⟩
     · rw [List.getElem?_set_ne (Ne.symm hj)] at e2
       obtain ⟨u',r',q⟩:=hl j y v' e1 e2 e3
       refine ⟨u',r',?_⟩
       rcases q with ⟨k,e⟩ | ⟨k,c,e,z⟩
       · refine .inl ⟨k,?_⟩
         have:y ≠ x:=fun e=>hj (lX hN e1 (e ▸ hi))
         simp [this,e]
       · exact .inr ⟨k,c,e,z.sameBut hs (cne y c e)⟩
   · obtain ⟨w',z⟩:=I.cell y c e
     exact ⟨w',z.sameBut hs (cne y c e)⟩
   · obtain ⟨e,n,ne,nf,d⟩:=I.pin p hp
     exact ⟨(hs.2 p.1 ne).trans e,n,ne,nf,d⟩
 · have hfn:X.fn x=true:=by
     rcases hf with z | z
     · exact z
     · rw [z] at hk; cases hk
   obtain ⟨c,hc⟩:=I.ok.has x (.inl hk)
   obtain ⟨w',z⟩:=I.cell x c hc
   refine wpAny_storeName_cell I.ok.kind hk hc z (fun h' hc' hs=>?_)
   obtain ⟨oc,hoc,hocd⟩:=id z
   refine h { s with heap:=h' } ⟨I.ok,I.os,I.bare,⟨fun b o e n hb hx=>?_,fun b o e n hb hx=>?_,I.base.free,fun b o e hx=>?_,I.base.tups,I.base.frzs,I.base.tbls⟩,⟨m,hn.sameBut hs (Ne.symm (cne x c hc)),fun j y v' e1 e2 e3=>?_⟩,fun y c' e=>?_,I.free,I.freeC,fun p hp=>?_,tracked ⟨oc,hoc,I.freeC x c hc⟩ hs,by simpa using I.len⟩ ⟨c,hs,.inr hc⟩
   · exact (hs.2 b (Z26 (Z15 (Z13 e) (I.ok.cab x c hfn hc)))).trans (I.base.keep b o e n hb hx)
   · obtain ⟨sl,e1⟩:=I.base.slot b o e n hb hx
     exact ⟨sl,(hs.2 b (Z26 (Z15 (Z13 e) (I.ok.cab x c hfn hc)))).trans e1⟩
   · obtain ⟨o',e1⟩:=I.base.there b o e hx
     exact ⟨o',(hs.2 b (Z26 (Z15 (Z13 e) (I.ok.cab x c hfn hc)))).trans e1⟩
   · by_cases hj:j=i
     · subst hj
       rw [hi] at e1; cases e1
       rw [List.getElem?_set_self hiσ] at e2
       cases e2
       exact ⟨u,r,.inr ⟨.inl hk,c,hc,hc'⟩⟩
     · rw [List.getElem?_set_ne (Ne.symm hj)] at e2
       obtain ⟨u',r',q⟩:=hl j y v' e1 e2 e3
       refine ⟨u',r',?_⟩
       rcases q with q | ⟨k,c',e,z'⟩
       · exact .inl q
       · refine .inr ⟨k,c',e,z'.sameBut hs ?_⟩
         rintro rfl
         exact hj (lX hN e1 (I.ok.inj _ _ _ e hc ▸ hi))
   · by_cases hcc:c'=c
     · subst hcc; exact ⟨_,hc'⟩
     · obtain ⟨w2,z2⟩:=I.cell y c' e
       exact ⟨w2,z2.sameBut hs hcc⟩
   · obtain ⟨e,n,ne,nf,d⟩:=I.pin p hp
     refine ⟨(hs.2 p.1 ?_).trans e,n,ne,nf,d⟩
     intro q
     rw [q,hoc] at e
     have q':oc=p.2:=Z27 e
     exact d w' (by rw [<- q']; exact hocd)
theorem cy {M:Model} {A:Around} {E:Value->Shared->Prop} {i:Nat} {x:Str} {v:V} {u:Value} {Q:Unit->Shared->Prop} (I:Inv X pins σ H s) (hN:X.N.Nodup) (hi:X.N[i]?=some x) (hx:Loc X.env.scope x) (r:RelV v u)
   (h:∀ s',Inv X pins (σ.set i (some v)) H s'->Q () s') (hf:X.fn x=true∨X.env.scope.names.lookup x=some .local:=by first | exact .inl rfl | exact .inr rfl | assumption):wpAny M A (storeName X.env x u) Q E s:=
 qr I hN hi hx r (fun s' I' _=>h s' I') hf
theorem Inv.call' {s':Shared} {ch:List Addr} (I:Inv X pins σ H s) (ho:s'.os=s.os) (u:Un (frs X.stack) ch H H' s.heap s'.heap) (hok:HOk X.prog X.w H' s'.heap) (hg:AllBare s'.gens)
   (hch:∀ b ∈ ch,(b ∈ X.ex∨X.s₀.heap.objs.size<=b)/\b ≠ X.env.locals/\(∀ x c,X.env.cells.lookup x=some c->c ≠ b)/\∀ p ∈ X.pn++pins,p.1 ≠ b):Inv X pins σ H' s':=by
 obtain ⟨h',g',d',t',o'⟩:=s'
 have e:o'=s.os:=ho
 subst e
 exact I.call (g':=g') (t':=t') (d':=d') u hok hg hch
end
noncomputable abbrev XK:=Value->Option Addr->Hp->Prop
noncomputable abbrev St:=List (Option V)
noncomputable abbrev VK:=V->Hp->Prop
noncomputable abbrev TE:=St->Hp->VK->Prop
noncomputable abbrev TT:=St->Hp->(Bool->Hp->Prop)->Prop
noncomputable abbrev TA:=St->Hp->(List V->Hp->Prop)->Prop
structure Ends where
 nx:St->Hp->Prop
 rt:VK
 bk:St->Hp->Prop:=fun _ _=>False
 ct:St->Hp->Prop:=fun _ _=>False
noncomputable abbrev TS:=Ends->St->Hp->Prop
inductive EP (X:Cx) (pins:List (Addr × Obj)) (σ:St) (Q:VK) (u:Value) (s':Shared):Prop
 | mk (v:V) (H':Hp) (I:Inv X pins σ H' s') (r:RelV v u) (q:Q v H'):EP X pins σ Q u s'
inductive TP (X:Cx) (pins:List (Addr × Obj)) (σ:St) (Q:Bool->Hp->Prop) (b:Bool) (s':Shared):Prop
 | mk (H':Hp) (I:Inv X pins σ H' s') (q:Q b H'):TP X pins σ Q b s'
inductive AP (X:Cx) (pins:List (Addr × Obj)) (σ:St) (Q:List V->Hp->Prop) (us:List Value) (s':Shared):Prop
 | mk (vs:List V) (H':Hp) (I:Inv X pins σ H' s') (r:Vals vs us) (q:Q vs H'):AP X pins σ Q us s'
inductive GP (X:Cx) (pins:List (Addr × Obj)) (Q:St->Hp->Prop) (s':Shared):Prop
 | mk (σ':St) (H':Hp) (I:Inv X pins σ' H' s') (q:Q σ' H'):GP X pins Q s'
inductive RP (X:Cx) (pins:List (Addr × Obj)) (Q:V->Hp->Prop) (u:Value) (s':Shared):Prop
 | mk (v:V) (σ':St) (H':Hp) (I:Inv X pins σ' H' s') (r:RelV v u) (q:Q v H'):RP X pins Q u s'
inductive HP (X:Cx) (pins:List (Addr × Obj)) (σ:St) (Q:Hp->Prop) (s':Shared):Prop
 | mk (H':Hp) (I:Inv X pins σ H' s') (q:Q H'):HP X pins σ Q s'
noncomputable def SP (X:Cx) (pins:List (Addr × Obj)) (D:Ends) (f:Flow) (s':Shared):Prop:=
 match f with
 | .next=>GP X pins D.nx s'
 | .brk=>GP X pins D.bk s'
 | .cont=>GP X pins D.ct s'
 | .ret u=>RP X pins D.rt u s'
noncomputable def PE (X:Cx) (e:Expr) (t:TE):Prop:=
 ∀ (pins:List (Addr × Obj)) (s:Shared) (σ:St) (H:Hp) (Q:VK),Inv X pins σ H s->t σ H Q->wpAny (model X.prog X.w) X.A (eval e X.env) (EP X pins σ Q) X.xe s
noncomputable def PT (X:Cx) (e:Expr) (t:TT):Prop:=
 ∀ (pins:List (Addr × Obj)) (s:Shared) (σ:St) (H:Hp) (Q:Bool->Hp->Prop),Inv X pins σ H s->t σ H Q->wpAny (model X.prog X.w) X.A (isTrue e X.env (eval e X.env)) (TP X pins σ Q) X.xe s
noncomputable def PW (X:Cx) (e:Expr) (t:TT):Prop:=
 ∀ (whole:Sem Value) (pins:List (Addr × Obj)) (s:Shared) (σ:St) (H:Hp) (Q:Bool->Hp->Prop),Inv X pins σ H s->t σ H Q->wpAny (model X.prog X.w) X.A (isTrue e X.env whole) (TP X pins σ Q) X.xe s
theorem PW.pt {X:Cx} {e:Expr} {t:TT} (h:PW X e t):PT X e t:=h _
noncomputable def PA (X:Cx) (es:List Expr) (t:TA):Prop:=
 ∀ (pos:Pos) (pins:List (Addr × Obj)) (s:Shared) (σ:St) (H:Hp) (Q:List V->Hp->Prop),Inv X pins σ H s->t σ H Q->wpAny (model X.prog X.w) X.A (spliced (backTo pos (starEach es X.env))) (AP X pins σ Q) X.xe s
noncomputable def PS (X:Cx) (st:Stmt) (t:TS):Prop:=
 ∀ (pins:List (Addr × Obj)) (s:Shared) (σ:St) (H:Hp) (D:Ends),Inv X pins σ H s->t D σ H->wpAny (model X.prog X.w) X.A (exec st X.env) (SP X pins D) X.xe s
noncomputable def PSs (X:Cx) (st:List Stmt) (t:TS):Prop:=
 ∀ (pins:List (Addr × Obj)) (s:Shared) (σ:St) (H:Hp) (D:Ends),Inv X pins σ H s->t D σ H->wpAny (model X.prog X.w) X.A (execs st X.env) (SP X pins D) X.xe s
theorem thn {α:Type} {t:Sem α} {Q Q':α->Shared->Prop} {M:Model} {A:Around} {E:Value->Shared->Prop} {s:Shared} (h:wpAny M A t Q E s) (hQ:∀ a s,Q a s->Q' a s):wpAny M A t Q' E s:=wpAny_mono h hQ fun _ _ x=>x
section
variable {X:Cx}
noncomputable def aU (i:Nat):TE:=fun σ H Q=>∃ v,σ[i]?=some (some v)/\Q v H
noncomputable def tC (v:V):TE:=fun _ H Q=>Q v H
theorem zN {i:Nat} {x:Str} {pos:Pos} (hN:X.N[i]?=some x) (hv:Vis X.env.scope x) (hd:(x == ("__debug__":Str))=false:=by decide) (hcd:(x == ("__classdict__":Str))=false:=by decide):PE X (.Name x pos) (aU i):=by
 intro pins s σ H Q I h
 obtain ⟨v,e,h⟩:=h
 obtain ⟨m,hn,hl⟩:=I.loc
 obtain ⟨u,r,l⟩:=hl i x v hN e hv
 have fin:EP X pins σ Q u s:=⟨v,H,I,r,h⟩
 rcases l with ⟨hk,hm⟩ | ⟨hk,c,hc,hcell⟩
 · exact wpAny_Name (wpAny_loadName_local I.ok.kind hk hn hm fin) hd
 · rcases hk with hk | hk
   · exact wpAny_Name (wpAny_loadName_cell I.ok.kind hk hc hcell fin) hd
   · exact wpAny_Name (wpAny_loadName_free I.ok.kind hk hc hcell fin hcd) hd
theorem zO {i j pos}:PE X (.Constant (.int i) j pos) (tC (.int i)):=fun _ _ _ H _ I h=>wpAny_Constant_int ⟨.int i,H,I.tok _,⟨_,rfl⟩,h⟩
theorem Cl {b j pos}:PE X (.Constant (.bool b) j pos) (tC (.bl b)):=fun _ _ _ H _ I h=>Constant_bool ⟨.bl b,H,I,rfl,h⟩
theorem zP {j pos}:PE X (.Constant .none j pos) (tC .non):=fun _ _ _ H _ I h=>Constant_none ⟨.non,H,I,rfl,h⟩
theorem zQ {x j pos}:PE X (.Constant (.str x) j pos) (tC (.str x)):=fun _ _ _ H _ I h=>Calls.Constant_str ⟨.str x,H,I.tok _,⟨_,rfl⟩,h⟩
noncomputable def Gl (X:Cx) (x:Str):Prop:=X.env.kindOf x=some .globalImplicit
theorem pj {E:Value->Shared->Prop} {pins:List (Addr × Obj)} {s:Shared} {σ:St} {H:Hp} {x:Str} {u:Value} {pos:Pos} {Q:Value->Shared->Prop} (I:Inv X pins σ H s) (hg:Gl X x) (hm:X.mg x=some u) (h:Q u s)
   (hd:(x == ("__debug__":Str))=false:=by decide):wpAny (model X.prog X.w) X.A (eval (.Name x pos) X.env) Q E s:=
 Calls.Name_function_global I.ok.kind hg (Calls.loadGlobal_global (by rw [I.ok.glob]; exact I.mod.glob.keeps I.bk) hm h) hd
theorem fU {E:Value->Shared->Prop} {pins:List (Addr × Obj)} {s:Shared} {σ:St} {H:Hp} {x:Str} {u:Value} {pos:Pos} {Q:Value->Shared->Prop} (I:Inv X pins σ H s) (hg:Gl X x) (hm:X.mg x=none) (hv:bootBuiltins x=some u) (h:Q u s)
   (hn:x ≠ "__name__":=by decide) (hd:(x == ("__debug__":Str))=false:=by decide):wpAny (model X.prog X.w) X.A (eval (.Name x pos) X.env) Q E s:=by
 obtain ⟨mb,h1,h2⟩:=I.mod.blt
 exact Calls.Name_function_global I.ok.kind hg (Calls.loadGlobal_builtin (by rw [I.ok.glob]; exact I.mod.glob.keeps I.bk) hm (by rw [I.ok.blt]; exact h1.keeps I.bk) ((h2 x hn).trans hv) h) hd
theorem kI {x:Str} {v:V} {u:Value} {pos:Pos} (hg:Gl X x) (hm:X.mg x=some u) (r:RelV v u) (hd:(x == ("__debug__":Str))=false:=by decide):PE X (.Name x pos) (tC v):=
 fun _ _ _ H _ I h=>pj I hg hm ⟨v,H,I,r,h⟩ hd
theorem fv {x:Str} {v:V} {u:Value} {pos:Pos} (hg:Gl X x) (hm:X.mg x=none) (hv:bootBuiltins x=some u) (r:RelV v u) (hn:x ≠ "__name__":=by decide) (hd:(x == ("__debug__":Str))=false:=by decide):PE X (.Name x pos) (tC v):=
 fun _ _ _ H _ I h=>fU I hg hm hv ⟨v,H,I,r,h⟩ hn hd
variable {a b:Expr} {ta tb:TE} {pos:Pos}
noncomputable def tB (t:TE):TT:=fun σ H Q=>t σ H fun x H1=>∃ c,x=.bl c/\Q c H1
variable {tA tB':TT} {aY:List Expr}
noncomputable def Cm (t u:TT):TT:=fun σ H Q=>t σ H fun c H1=>if c=true then u σ H1 Q else Q false H1
noncomputable def tOr (t u:TT):TT:=fun σ H Q=>t σ H fun c H1=>if c=true then Q true H1 else u σ H1 Q
noncomputable def Co (t:TT):TT:=fun σ H Q=>t σ H fun c H1=>Q (!c) H1
theorem vL (ha:PT X a tA):PW X (.BoolOp .And [a] pos) tA:=by
 intro wh pins s σ H Q I h
 refine isTrue_and (thn (ha pins s σ H Q I h) fun c s1 e=>?_)
 cases c with
 | true=>exact isTrue_and_nil e
 | false=>exact e
theorem zR (ha:PT X a tA):PW X (.BoolOp .Or [a] pos) tA:=by
 intro wh pins s σ H Q I h
 refine isTrue_or (thn (ha pins s σ H Q I h) fun c s1 e=>?_)
 cases c with
 | false=>exact isTrue_or_nil e
 | true=>exact e
theorem zS (ha:PT X a tA) (hb:PW X (.BoolOp .And (b::aY) pos) tB'):PW X (.BoolOp .And (a::b::aY) pos) (Cm tA tB'):=by
 intro wh pins s σ H Q I h
 refine isTrue_and (thn (ha pins s σ H _ I h) fun c s1 ⟨H1,I1,q1⟩=>?_)
 cases c with
 | true=>exact hb wh pins s1 σ H1 Q I1 q1
 | false=>exact ⟨H1,I1,q1⟩
theorem Cp (ha:PT X a tA) (hb:PW X (.BoolOp .Or (b::aY) pos) tB'):PW X (.BoolOp .Or (a::b::aY) pos) (tOr tA tB'):=by
 intro wh pins s σ H Q I h
 refine isTrue_or (thn (ha pins s σ H _ I h) fun c s1 ⟨H1,I1,q1⟩=>?_)
 cases c with
 | true=>exact ⟨H1,I1,q1⟩
 | false=>exact hb wh pins s1 σ H1 Q I1 q1
theorem zT (ha:PT X a tA):PT X (.UnaryOp .Not a pos) (Co tA):=by
 intro pins s σ H Q I h
 exact isTrue_not (thn (ha pins s σ H (fun c H1=>Q (!c) H1) I h) fun _ _ ⟨H1,I1,q1⟩=>⟨H1,I1,q1⟩)
noncomputable def yP (ta tb:TE):TE:=fun σ H Q=>ta σ H fun x H1=>∃ c,x=.bl c/\if c=true then tb σ H1 Q else Q (.bl false) H1
noncomputable def yQ (ta:TE):TE:=fun σ H Q=>ta σ H fun x H1=>∃ c,x=.bl c/\Q (.bl (!c)) H1
theorem zU {op} {t:TE} (h:PE X a t):PE X (.BoolOp op [a] pos) t:=fun pins s σ H Q I hw=>BoolOp_one (h pins s σ H Q I hw)
theorem zV (ha:PE X a ta) (hb:PE X (.BoolOp .And (b::aY) pos) tb):PE X (.BoolOp .And (a::b::aY) pos) (yP ta tb):=by
 intro pins s σ H Q I h
 refine BoolOp_and (thn (ha pins s σ H _ I h) fun v s1 ⟨x,H1,I1,r1,q1⟩=>?_)
 obtain ⟨c,rfl,q1⟩:=q1
 cases r1
 refine wpAny_truthy_bool ?_
 cases c with
 | true=>exact hb pins s1 σ H1 Q I1 q1
 | false=>exact ⟨.bl false,H1,I1,rfl,q1⟩
theorem zW (ha:PE X a ta):PE X (.UnaryOp .Not a pos) (yQ ta):=by
 intro pins s σ H Q I h
 refine UnaryOp_ (thn (ha pins s σ H _ I h) fun v s1 ⟨x,H1,I1,r1,q1⟩=>?_)
 obtain ⟨c,rfl,q1⟩:=q1
 cases r1
 exact not_of (wpAny_truthy_bool ⟨.bl (!c),H1,I1,rfl,q1⟩)
end
noncomputable def SqL (K:PySem.W.Frag) (H:Hp) (a:Addr) (xs:List V):Prop:=
 Rd H a (.lst xs) ∨
   ∃ (o:Obj) (its:Array Value) (n:Nat),K.lookup a=some o/\o.cls=.type "list"/\o.dict=none/\o.data=.seq its n/\its.size<=sizeLine/\Vals xs its.toList
noncomputable def SqT (K:PySem.W.Frag) (H:Hp) (a:Addr) (xs:List V):Prop:=H a=some (.tup xs)
noncomputable def Eo:Value->Option V
 | .none=>some .non
 | .bool b=>some (.bl b)
 | .int i _=>some (.int i)
 | .str x _=>some (.str x)
 | .bytes b _=>some (.byt b)
 | .float b _=>some (.flt b)
 | .ref a=>some (.ref a)
 | .type n=>some (.ty n)
 | _=>none
theorem RelV.abs {x:V} {u:Value} (r:RelV x u):Eo u=some x:=by
 cases x with
 | non=>cases r; rfl
 | bl _=>cases r; rfl
 | int _=>obtain ⟨t,rfl⟩:=r; rfl
 | str _=>obtain ⟨t,rfl⟩:=r; rfl
 | byt _=>obtain ⟨t,rfl⟩:=r; rfl
 | flt _=>obtain ⟨t,rfl⟩:=r; rfl
 | ref _=>cases r; rfl
 | ty _=>cases r; rfl
theorem RelV.inj {x y:V} {u:Value} (r:RelV x u) (q:RelV y u):x=y:=Z27 (r.abs.symm.trans q.abs)
theorem Vals.inj:∀ {xs ys:List V} {us:List Value},Vals xs us->Vals ys us->xs=ys:=by
 intro xs ys us h
 induction h generalizing ys with
 | nil=>intro g; cases g; rfl
 | cons r _ ih=>intro g; cases g with | cons r' t'=>rw [r.inj r',ih t']
section
variable {X:Cx} {pins:List (Addr × Obj)} {σ:St} {H:Hp} {s:Shared} {a:Addr} {xs ys:List V}
theorem Inv.list (I:Inv X pins σ H s) (h:SqL X.K H a xs):∃ its:List Value,Vals xs its/\PlainL s.heap a its.toArray/\xs.length<=sizeLine:=by
 rcases h with h | ⟨o,its,n,hk,hc,hd,hs,hz,r⟩
 · obtain ⟨z,its,n,r,e⟩:=h.ok I.hok
   exact ⟨its,r,⟨_,n,e,rfl,rfl,rfl⟩,z⟩
 · refine ⟨its.toList,r,⟨o,n,I.kIn a o hk,hc,hd,by simpa using hs⟩,?_⟩
   have e:=r.length
   simp only [Array.length_toList] at e
   omega
theorem Inv.tuple (I:Inv X pins σ H s) (h:SqT X.K H a xs):∃ its:List Value,Vals xs its/\IsTup s.heap a its.toArray/\xs.length<=sizeLine:=by
 obtain ⟨z,its,r,p⟩:=I.hok a _ h
 exact ⟨its,r,p,z⟩
theorem Inv.list_inj (I:Inv X pins σ H s) (h:SqL X.K H a xs) (h':SqL X.K H a ys):xs=ys:=by
 obtain ⟨its,r,⟨o,n,e,_,_,d⟩,_⟩:=I.list h
 obtain ⟨its',r',⟨o',n',e',_,_,d'⟩,_⟩:=I.list h'
 rw [e] at e'; cases e'
 rw [d] at d'
 injection d' with d1 _
 have:its=its':=by simpa using congrArg Array.toList d1
 subst this
 exact r.inj r'
theorem Inv.tuple_inj (I:Inv X pins σ H s) (h:SqT X.K H a xs) (h':SqT X.K H a ys):xs=ys:=by
 obtain ⟨its,r,⟨o,e,_,n,d⟩,_⟩:=I.tuple h
 obtain ⟨its',r',⟨o',e',_,n',d'⟩,_⟩:=I.tuple h'
 rw [e] at e'; cases e'
 rw [d] at d'
 injection d' with d1 _
 have:its=its':=by simpa using congrArg Array.toList d1
 subst this
 exact r.inj r'
end
noncomputable abbrev Cx.wish (X:Cx) (E:Value->Shared->Prop):Cx:={ X with xe:=E }
noncomputable abbrev Cx.nox (X:Cx):Cx:=X.wish fun _ _=>False
theorem Cx.Ok.wish {X:Cx} (ok:X.Ok) (E:Value->Shared->Prop):(X.wish E).Ok:=
 ⟨ok.mod,ok.kind,ok.glob,ok.blt,ok.above,ok.inj,ok.has,ok.cab,ok.hd,ok.frames,ok.stk,ok.exf,ok.bs,ok.bsz,ok.noex,ok.exfs,ok.funs,ok.frf⟩
theorem Cx.Ok.unwish {X:Cx} {E:Value->Shared->Prop} (ok:(X.wish E).Ok):X.Ok:=
 ⟨ok.mod,ok.kind,ok.glob,ok.blt,ok.above,ok.inj,ok.has,ok.cab,ok.hd,ok.frames,ok.stk,ok.exf,ok.bs,ok.bsz,ok.noex,ok.exfs,ok.funs,ok.frf⟩
section
variable {X:Cx} {pins:List (Addr × Obj)} {σ:St} {H:Hp} {s:Shared} {E:Value->Shared->Prop}
theorem Inv.wish (I:Inv X pins σ H s) (E:Value->Shared->Prop):Inv (X.wish E) pins σ H s:=⟨I.ok.wish E,I.os,I.bare,I.base,I.loc,I.cell,I.free,I.freeC,I.pin,I.hok,I.len⟩
theorem Inv.unwish (I:Inv (X.wish E) pins σ H s):Inv X pins σ H s:=⟨I.ok.unwish,I.os,I.bare,I.base,I.loc,I.cell,I.free,I.freeC,I.pin,I.hok,I.len⟩
theorem SP.unwish {D:Ends} {f:Flow} {s':Shared} (h:SP (X.wish E) pins D f s'):SP X pins D f s':=by
 cases f with
 | next=>obtain ⟨σ',H',I,q⟩:=h; exact ⟨σ',H',I.unwish,q⟩
 | brk=>obtain ⟨σ',H',I,q⟩:=h; exact ⟨σ',H',I.unwish,q⟩
 | cont=>obtain ⟨σ',H',I,q⟩:=h; exact ⟨σ',H',I.unwish,q⟩
 | ret u=>obtain ⟨v,σ',H',I,r,q⟩:=h; exact ⟨v,σ',H',I.unwish,r,q⟩
theorem PSs.nox {st:List Stmt} {t:TS} (h:PSs X.nox st t):PSs X st t:=fun pins s σ H D I hw=>
 wpAny_mono (h pins s σ H D (I.wish _) hw) (fun _ _ q=>q.unwish) fun _ _ z=>False.elim z
end
section
variable {X:Cx} {st:Stmt} {aY:List Stmt} {t u:TS} {e:Expr} {te:TE} {pos:Pos}
noncomputable def yR:TS:=fun D σ H=>D.nx σ H
noncomputable def fV (t u:TS):TS:=fun D σ H=>t { D with nx:=u D } σ H
theorem vM:PSs X [] yR:=fun _ _ σ H _ I h=>wpAny_execs_nil ⟨σ,H,I,h⟩
theorem su (h1:PS X st t) (h2:PSs X aY u):PSs X (st::aY) (fV t u):=by
 intro pins s σ H D I h
 refine wpAny_execs_cons (thn (h1 pins s σ H { D with nx:=u D } I h) fun f s1 q=>?_)
 cases f with
 | next=>
   obtain ⟨σ',H',I',q⟩:=q
   exact h2 pins s1 σ' H' D I' q
 | ret v=>exact q
 | brk=>exact q
 | cont=>exact q
theorem vN (h1:PS X st t):PSs X [st] t:=by
 intro pins s σ H D I h
 refine wpAny_execs_cons (thn (h1 pins s σ H D I h) fun f s1 q=>?_)
 cases f with
 | next=>exact wpAny_execs_nil q
 | ret v=>exact q
 | brk=>exact q
 | cont=>exact q
theorem Inv.quiet {pins:List (Addr × Obj)} {σ:St} {H:Hp} {s:Shared} (I:Inv X pins σ H s):interactive X.env=false:=by simp [interactive,I.ok.kind]
noncomputable def ii (te:TE):TS:=fun D σ H=>te σ H fun _ H1=>D.nx σ H1
theorem gW (he:PE X e te) (hs:swapsWith e none pos.line X.env=pure false:=by rfl):PS X (.Expr e pos) (ii te):=by
 intro pins s σ H D I h
 exact wpAny_Expr_any (thn (he pins s σ H _ I h) fun v s1 ⟨x,H1,I1,r1,q1⟩=>⟨σ,H1,I1,q1⟩) I.quiet hs
noncomputable def nK (te:TE):TS:=fun D σ H=>te σ H D.rt
theorem zX (he:PE X e te):PS X (.Return (some e) pos) (nK te):=by
 intro pins s σ H D I h
 exact wpAny_Return_some (thn (he pins s σ H _ I h) fun v s1 ⟨x,H1,I1,r1,q1⟩=>⟨x,σ,H1,I1,r1,q1⟩)
noncomputable def sv (c:TT) (t u:TS):TS:=fun D σ H=>c σ H fun b H1=>if b=true then t D σ H1 else u D σ H1
theorem Cq {c:Expr} {a b:List Stmt} {tc:TT} (hc:PT X c tc) (ha:PSs X a t) (hb:PSs X b u):PS X (.If c a b pos) (sv tc t u):=by
 intro pins s σ H D I h
 refine wpAny_If (thn (hc pins s σ H _ I h) fun d s1 ⟨H1,I1,q1⟩=>?_)
 cases d with
 | true=>exact ha pins s1 σ H1 D I1 q1
 | false=>exact hb pins s1 σ H1 D I1 q1
end
noncomputable abbrev TG:=V->St->Hp->(St->Hp->Prop)->Prop
noncomputable abbrev TGs:=List V->St->Hp->(St->Hp->Prop)->Prop
noncomputable def PG (X:Cx) (target:Expr) (t:TG):Prop:=
 ∀ (pins:List (Addr × Obj)) (s:Shared) (σ:St) (H:Hp) (v:V) (u:Value) (Q:St->Hp->Prop),Inv X pins σ H s->RelV v u->t v σ H Q ->
   wpAny (model X.prog X.w) X.A (assign target X.env u) (fun _ s'=>GP X pins Q s') X.xe s
noncomputable def PGs (X:Cx) (ts:List Expr) (t:TGs):Prop:=
 ∀ (pins:List (Addr × Obj)) (s:Shared) (σ:St) (H:Hp) (vs:List V) (us:List Value) (Q:St->Hp->Prop),Inv X pins σ H s->Vals vs us->t vs σ H Q ->
   wpAny (model X.prog X.w) X.A (assignInOrder ((assignEach ts X.env).map (·.2)) us) (fun _ s'=>GP X pins Q s') X.xe s
noncomputable abbrev zY:=V->V->V->Hp->(Hp->Prop)->Prop
noncomputable def vO (X:Cx) (t:zY):Prop:=
 ∀ (pins:List (Addr × Obj)) (s:Shared) (σ:St) (H:Hp) (o i v:V) (ov iv u:Value) (Q:Hp->Prop),Inv X pins σ H s->RelV o ov->RelV i iv->RelV v u->t o i v H Q ->
   wpAny (model X.prog X.w) X.A (setItem ov iv u) (fun _ s'=>HP X pins σ Q s') X.xe s
noncomputable abbrev TIp:=V->V->Hp->VK->Prop
noncomputable def PIp (X:Cx) (op:Operator) (t:TIp):Prop:=
 ∀ (pins:List (Addr × Obj)) (s:Shared) (σ:St) (H:Hp) (x y:V) (v u:Value) (Q:VK),Inv X pins σ H s->RelV x v->RelV y u->t x y H Q ->
   wpAny (model X.prog X.w) X.A (inplaceOp op v u) (EP X pins σ Q) X.xe s
section
variable {X:Cx} {pos:Pos}
noncomputable def dg (i:Nat):TG:=fun v σ H Q=>Q (σ.set i (some v)) H
theorem kJ {i:Nat} {x:Str} (hN:X.N.Nodup) (hi:X.N[i]?=some x) (hx:Loc X.env.scope x) (hf:X.fn x=true∨X.env.scope.names.lookup x=some .local:=by first | exact .inl rfl | exact .inr rfl | assumption):PG X (.Name x pos) (dg i):=by
 intro pins s σ H v u Q I r h
 exact wpAny_assign_Name (cy I hN hi hx r (fun s' I'=>⟨_,H,I',h⟩) hf)
noncomputable def sw:TGs:=fun vs σ H Q=>vs=[]/\Q σ H
noncomputable def jy (t:TG) (u:TGs):TGs:=fun vs σ H Q=>∃ v r,vs=v::r/\t v σ H fun σ' H'=>u r σ' H' Q
theorem pk:PGs X [] sw:=by
 intro pins s σ H vs us Q I r h
 obtain ⟨e,h⟩:=h
 subst e
 cases r
 exact assignInOrder_nil ⟨σ,H,I,h⟩
theorem lY {e:Expr} {es:List Expr} {t:TG} {u:TGs} (h1:PG X e t) (h2:PGs X es u)
   (hs:(assignEach (e::es) X.env).map (·.2)=assign e X.env::(assignEach es X.env).map (·.2):=by rfl):PGs X (e::es) (jy t u):=by
 intro pins s σ H vs us Q I r h
 obtain ⟨v,vr,e1,h⟩:=h
 subst e1
 cases r with
 | cons r rr=>
   rw [hs]
   refine assignInOrder_cons (thn (h1 pins s σ H _ _ _ I r h) fun _ s1 ⟨σ1,H1,I1,q1⟩=>?_)
   exact h2 pins s1 σ1 H1 _ _ Q I1 rr q1
noncomputable def lZ (K:PySem.W.Frag) (n:Nat) (t:TGs):TG:=fun v σ H Q=>∃ a xs,v=.ref a/\SqT K H a xs/\xs.length=n/\t xs σ H Q
theorem zZ {es:List Expr} {k:Nat} {t:TGs} {n:Nat} (hc:X.calm=true) (h:PGs X es t)
   (hn:(assignEach es X.env).length=n:=by rfl) (hst:(assignEach es X.env).findIdx? (·.1)=none:=by rfl):PG X (.Tuple es k pos) (lZ X.K n t):=by
 intro pins s σ H v u Q I r hw
 obtain ⟨a,xs,e1,hq,hl,hw⟩:=hw
 subst e1
 cases r
 obtain ⟨its,rv,ht,hz⟩:=I.tuple hq
 refine assign_Tuple_tuple (I.ok.hd hc) ht (by simp [hn,<- hl,rv.length]) hst fun h' hx=>?_
 have I1:Inv X pins σ H { s with heap:=h' }:=I.kept (t':=s.toks) fun b o e=>hx b o (Z26 (Z13 e)) e
 exact h pins _ σ H xs _ Q I1 (by simpa using rv) hw
noncomputable def kK (to ti:TE) (t:zY):TG:=fun v σ H Q=>to σ H fun o H1=>ti σ H1 fun i H2=>t o i v H2 fun H3=>Q σ H3
theorem z8 {o i:Expr} {to ti:TE} {t:zY} (ho:PE X o to) (hi:PE X i ti) (hs:vO X t)
   (ha:∀ v,assign (.Subscript o i pos) X.env v=(do
     let ov <- holding [v] (eval o X.env)
     let iv <- holding [v,ov] (eval i X.env)
     standAt pos
     holding [v,ov,iv] (setItem ov iv v)
     release [v,ov,iv] []):=by intro _; rfl):PG X (.Subscript o i pos) (kK to ti t):=by
 intro pins s σ H v u Q I r h
 rw [ha]
 refine Z55 (wpAny_holding (thn (ho pins s σ H _ I h) fun ov s1 ⟨x,H1,I1,r1,q1⟩=>?_))
 refine Z55 (wpAny_holding (thn (hi pins s1 σ H1 _ I1 q1) fun iv s2 ⟨y,H2,I2,r2,q2⟩=>?_))
 refine Z55 (wpAny_standAt (Z55 (wpAny_holding (thn (hs pins s2 σ H2 x y v ov iv u _ I2 r1 r2 r q2) fun _ s3 ⟨H3,I3,q3⟩=>?_))))
 exact wpAny_release ⟨σ,H3,I3,q3⟩
noncomputable def kL (te:TE) (g:TG):TS:=fun D σ H=>te σ H fun x H1=>g x σ H1 D.nx
theorem z9 {tg e:Expr} {te:TE} {g:TG} (he:PE X e te) (hg:PG X tg g) (hs:swapsWithSole [tg] e pos.line X.env=pure false:=by rfl) (hw:swappedStores [tg] e X.env=pure none:=by rfl)
   (h1:(assignEach [tg] X.env).map (·.2)=[assign tg X.env]:=by rfl):PS X (.Assign [tg] e pos) (kL te g):=by
 intro pins s σ H D I h
 refine wpAny_Assign_stores (thn (he pins s σ H _ I h) fun v s1 ⟨x,H1,I1,r1,q1⟩=>?_) hs hw
 rw [h1]
 exact thn (hg pins s1 σ H1 x v _ I1 r1 q1) fun _ s2 q=>q
noncomputable def Cr (i j:Nat) (ta:TA):TS:=fun D σ H=>ta σ H fun vs H1=>∃ v w,vs=[v,w]/\D.nx ((σ.set i (some v)).set j (some w)) H1
theorem Aa {i j:Nat} {x y:Str} {a b:Expr} {ta:TA} {px py pt:Pos} {kt k2 pt2} (hc:X.calm=true) (hN:X.N.Nodup) (hi:X.N[i]?=some x) (hj:X.N[j]?=some y) (hij:i ≠ j)
   (hx:X.env.scope.names.lookup x=some .local) (hy:X.env.scope.names.lookup y=some .local) (ha:PA X [a,b] ta)
   (hw:swappedStores [.Tuple [.Name x px,.Name y py] kt pt] (.Tuple [a,b] k2 pt2) X.env=pure (some [x,y]))
   (hs:swapsWithSole [.Tuple [.Name x px,.Name y py] kt pt] (.Tuple [a,b] k2 pt2) pos.line X.env=pure false:=by rfl) :
   PS X (.Assign [.Tuple [.Name x px,.Name y py] kt pt] (.Tuple [a,b] k2 pt2) pos) (Cr i j ta):=by
 intro pins s σ H D I h
 rw [exec_Assign_arm]
 refine Z55 (wpAny_standAt ?_)
 rw [hs]
 refine Z55 (Z56 ?_)
 rw [if_neg (by decide)]
 refine Z55 (Tuple_ (thn (ha _ pins s σ H _ I h) fun us s1 ⟨vs,H1,I1,r1,q1⟩=>?_))
 obtain ⟨v,w,e1,q1⟩:=q1
 subst e1
 obtain ⟨u1,u2,rfl,rv,rw'⟩:∃ u1 u2,us=[u1,u2]/\RelV v u1/\RelV w u2:=by
   cases r1 with
   | cons p q=>
     cases q with
     | cons p' q'=>
       cases q'
       exact ⟨_,_,rfl,p,p'⟩
 refine wpAny_newObj_type ?_ (by show 2<=sizeLine; decide)
 have I2:Inv X pins σ H1 { s1 with heap:=s1.heap.push { cls:=.type "tuple",data:=.seq [u1,u2].toArray } }:=I1.kept (t':=s1.toks) fun b o e=>Z7 _ e
 rw [hw]
 refine Z55 (Z56 ?_)
 show wpAny (model X.prog X.w) X.A (do rule "assign.swapped-stores"; let items <- unpackItems (.ref s1.heap.objs.size) 2 none; assignInOrder [fun v=>bindName X.env y v,fun v=>bindName X.env x v] items.reverse; pure Flow.next) _ _ _
 refine Z55 (wpAny_rule (Z55 (unpackItems_tuple (items:=#[u1,u2]) (I.ok.hd hc) (IsTup.new s1.heap _) fun h' hx'=>?_)))
 have I3:=I2.kept (h':=h') (t':=s1.toks) fun b o e=>hx' b o (Z26 (Z13 e)) e
 show wpAny _ _ (assignInOrder [fun v=>bindName X.env y v,fun v=>bindName X.env x v] [u2,u1] >>= fun _=>pure Flow.next) _ _ _
 refine Z55 (assignInOrder_cons (wpAny_bindName (cy I3 hN hj (.inl hy) rw' (fun s2 I4=>?_) (.inr hy))))
 refine assignInOrder_cons (wpAny_bindName (cy I4 hN hi (.inl hx) rv (fun s3 I5=>assignInOrder_nil (Z56 ?_)) (.inr hx)))
 rw [List.set_comm _ _ (Ne.symm hij)] at I5
 exact ⟨_,H1,I5,q1⟩
noncomputable def Cs (i:Nat) (te:TE) (ti:TIp):TS:=fun D σ H=>∃ x,σ[i]?=some (some x)/\te σ H fun y H1=>ti x y H1 fun z H2=>D.nx (σ.set i (some z)) H2
theorem Ab {i:Nat} {x:Str} {e:Expr} {te:TE} {op:Operator} {ti:TIp} {pos':Pos} (hN:X.N.Nodup) (hi:X.N[i]?=some x) (hx:Loc X.env.scope x) (he:PE X e te) (ho:PIp X op ti) (hf:X.fn x=true∨X.env.scope.names.lookup x=some .local:=by first | exact .inl rfl | exact .inr rfl | assumption) :
   PS X (.AugAssign (.Name x pos') op e pos) (Cs i te ti):=by
 intro pins s σ H D I h
 obtain ⟨v,e1,h⟩:=h
 obtain ⟨m,hn,hl⟩:=I.loc
 have vis:Vis X.env.scope x:=by rcases hx with k | k; exact .inl k; exact .inr (.inl k)
 obtain ⟨u,r,l⟩:=hl i x v hi e1 vis
 refine wpAny_AugAssign_Name ?_
 have go:wpAny (model X.prog X.w) X.A (eval e X.env) (fun w s₂=>wpAny (model X.prog X.w) X.A (inplaceOp op u w) (fun r s₃=>wpAny (model X.prog X.w) X.A (storeName X.env x r) (fun _=>SP X pins D .next) X.xe s₃) X.xe s₂) X.xe s:=by
   refine thn (he pins s σ H _ I h) fun w s1 ⟨y,H1,I1,r1,q1⟩=>?_
   refine thn (ho pins s1 σ H1 v y u w _ I1 r r1 q1) fun z s2 ⟨zv,H2,I2,r2,q2⟩=>?_
   exact cy I2 hN hi hx r2 (fun s3 I3=>⟨_,H2,I3,q2⟩) hf
 rcases l with ⟨hk,hm⟩ | ⟨hk,c,hc,hcell⟩
 · exact wpAny_loadName_local I.ok.kind hk hn hm go
 · rcases hk with hk | hk
   · exact wpAny_loadName_cell I.ok.kind hk hc hcell go
   · rcases hx with k | k
     · have:X.env.scope.names.lookup x=some .free:=hk
       rw [k] at this; cases this
     · have:X.env.scope.names.lookup x=some .free:=hk
       rw [k] at this; cases this
noncomputable def ipI (f:Int->Int->Int):TIp:=fun x y H Q=>∃ i j,x=.int i/\y=.int j/\Q (.int (f i j)) H
theorem Ac:PIp X .Add (ipI fun i j=>i+j):=by
 intro pins s σ H x y v u Q I r1 r2 h
 obtain ⟨i,j,e1,e2,q⟩:=h
 subst e1; subst e2
 obtain ⟨t,rfl⟩:=r1
 obtain ⟨t',rfl⟩:=r2
 exact iadd_int ⟨.int _,H,I.tok _,⟨_,rfl⟩,q⟩
end
section
variable {X:Cx} {pos:Pos}
noncomputable def sy (c:TT) (tb:TS):TS:=fun D σ H=>∃ W:Nat->St->Hp->Prop,(∃ m,W m σ H)/\∀ m σ H,W m σ H ->
 c σ H fun b H1=>if b=true then ∃ N:St->Hp->Prop,(∀ σ' H',N σ' H'->∃ m',m' < m/\W m' σ' H')/\tb { D with nx:=N,ct:=N,bk:=D.nx } σ H1 else D.nx σ H1
theorem sA {c:Expr} {body:List Stmt} {tc:TT} {tb:TS} (hp:PassesOwn (model X.prog X.w) X.A X.env X.xe) (hc:PT X c tc) (hb:PSs X body tb):PS X (.While c body [] pos) (sy tc tb):=by
 intro pins s σ H D I h
 obtain ⟨W,⟨m0,w0⟩,turn⟩:=h
 refine wpAny_While (codeAny_whileLoop (fun n s'=>∃ σ' H',Inv X pins σ' H' s'/\W n σ' H') ?_ m0 ⟨σ,H,I,w0⟩)
 rintro n s1 ⟨σ1,H1,I1,w1⟩
 refine wpAny_passesOwn hp (thn (hc pins s1 σ1 H1 _ I1 (turn n σ1 H1 w1)) fun b s2 ⟨H2,I2,q2⟩=>?_)
 cases b with
 | true=>
   obtain ⟨N,hN,q2⟩:=q2
   rw [if_pos rfl]
   refine wpAny_passesOwn hp (thn (hb pins s2 σ1 H2 _ I2 q2) fun f s3 q3=>?_)
   cases f with
   | next=>
     obtain ⟨σ3,H3,I3,n3⟩:=q3
     obtain ⟨m',hm,w3⟩:=hN σ3 H3 n3
     exact ⟨m',hm,σ3,H3,I3,w3⟩
   | cont=>
     obtain ⟨σ3,H3,I3,n3⟩:=q3
     obtain ⟨m',hm,w3⟩:=hN σ3 H3 n3
     exact ⟨m',hm,σ3,H3,I3,w3⟩
   | brk=>exact q3
   | ret v=>exact q3
 | false=>
   rw [if_neg Z28]
   exact wpAny_execs_nil ⟨σ1,H2,I2,q2⟩
end
structure It where
 go:Nat->Hp->Prop
 yld:Nat->Hp->V->Hp->Prop
 stop:Nat->Hp->Prop
noncomputable def eO (X:Cx) (pins:List (Addr × Obj)) (H:Hp) (b:Addr):Prop:=
 H b=none/\b ≠ X.env.locals/\b ∉ X.fs/\(b ∈ X.ex∨X.s₀.heap.objs.size<=b)/\(∀ x c,X.env.cells.lookup x=some c->c ≠ b)/\∀ p ∈ X.pn++pins,p.1 ≠ b
theorem Inv.fpOk {X:Cx} {pins:List (Addr × Obj)} {σ:St} {H H':Hp} {s:Shared} {b:Addr} (I:Inv X pins σ H s) (hb:s.heap.objs.size<=b) (hn:H' b=none):eO X pins H' b:=by
 refine ⟨hn,Nat.ne_of_gt (Z15 I.lt hb),I.nofs hb,.inr (Z24 I.sz hb),fun x c e z=>?_,fun p hp z=>?_⟩
 · obtain ⟨v,q⟩:=I.cell x c e
   exact absurd (Z15 q.lt (by rw [z]; exact hb)) (Z33 _)
 · exact absurd (Z15 (Z13 (I.pin p hp).1) (by rw [z]; exact hb)) (Z33 _)
inductive YP (X:Cx) (pins:List (Addr × Obj)) (σ:St) (H:Hp) (i:Nat) (J:It) (tn:Nat->Heap->Prop) (fp:List Addr) (u:Value) (s2:Shared):Prop
 | mk:∀ x H',Inv X pins σ H' s2->RelV x u->J.yld i H x H'->tn (i+1) s2.heap->(∀ b ∈ fp,H' b=none)->YP X pins σ H i J tn fp u s2
inductive FrI (X:Cx) (pins:List (Addr × Obj)) (fp:List Addr) (tn:Nat->Heap->Prop) (W:Nat->Nat->St->Hp->Prop) (n:Nat) (s':Shared):Prop
 | mk:∀ i σ' H',Inv X pins σ' H' s'->tn i s'.heap->(∀ b ∈ fp,H' b=none)->W i n σ' H'->FrI X pins fp tn W n s'
structure Turn (P:Program) (w:World) (K:PySem.W.Frag) (tg:Expr) (J:It) (fp:List Addr) (it:Addr) (tn:Nat->Heap->Prop):Prop where
 mem:it ∈ fp
 obj:∀ i h,tn i h->∀ b ∈ fp,∃ o,h.get? b=some o/\∀ v,o.data ≠ .cell v
 keep:∀ i h h',tn i h->(∀ b ∈ fp,∀ o,h.get? b=some o->h'.get? b=some o)->tn i h'
 item:∀ (X:Cx),X.prog=P->X.w=w->X.K=K->X.calm=true->∀ (i:Nat) (pins:List (Addr × Obj)) (s:Shared) (σ:St) (H:Hp) (E:Value->Shared->Prop),Inv X pins σ H s->(∀ b ∈ fp,eO X pins H b)->tn i s.heap->J.go i H ->
   wpAny (model P w) X.A (pyNext (.ref it)) (fun r s1=>∃ u,r=some u /\
     wpAny (model P w) X.A (letOwnedTupleGo tg (.ref it) u) (fun _ s2=>YP X pins σ H i J tn fp u s2) E s1) E s
 done:∀ (X:Cx),X.prog=P->X.w=w->X.K=K->X.calm=true->∀ (i:Nat) (pins:List (Addr × Obj)) (s:Shared) (σ:St) (H:Hp) (E:Value->Shared->Prop),Inv X pins σ H s->(∀ b ∈ fp,eO X pins H b)->tn i s.heap->J.stop i H ->
   wpAny (model P w) X.A (pyNext (.ref it)) (fun r s1=>r=none/\Inv X pins σ H s1) E s
 self:∀ (A:Around) (i:Nat) (s:Shared) (Q:Value->Shared->Prop) (E:Value->Shared->Prop),tn i s.heap->Q (.ref it) s->wpAny (model P w) A (pyIter (.ref it)) Q E s
noncomputable abbrev TI:=St->Hp->(It->Hp->Prop)->Prop
inductive PIE (X:Cx) (pins:List (Addr × Obj)) (σ:St) (tg:Expr) (R:It->Hp->Prop) (itv:Value) (s2:Shared):Prop
 | mk (it:Addr) (fp:List Addr) (tn:Nat->Heap->Prop) (J:It) (H':Hp) (e:itv=.ref it) (I:Inv X pins σ H' s2) (T:Turn X.prog X.w X.K tg J fp it tn) (t0:tn 0 s2.heap) (f:∀ b ∈ fp,eO X pins H' b) (r:R J H'):PIE X pins σ tg R itv s2
noncomputable def PI (X:Cx) (tg iter:Expr) (wi:TI):Prop:=
 ∀ (pins:List (Addr × Obj)) (s:Shared) (σ:St) (H:Hp) (R:It->Hp->Prop),Inv X pins σ H s->wi σ H R ->
   wpAny (model X.prog X.w) X.A (eval iter X.env) (fun v s1=>wpAny (model X.prog X.w) X.A (pyIter v) (PIE X pins σ tg R) X.xe s1) X.xe s
theorem jz {M:Model} {A:Around} {E:Value->Shared->Prop} {s:Shared} {tg:Expr} {it:Addr} {u:Value} {o:Obj} {n:String} {vs:Array Value} {Q:Unit->Shared->Prop} (ho:s.heap.get? it=some o) (hc:o.cls=.type n) (hd:o.data=.fields vs)
   (hn:["enumerate","zip","dict_itemiterator","dict_reverseitemiterator","odict_iterator","itertools.zip_longest","itertools.pairwise"].contains n=false) (hQ:Q () s):wpAny M A (letOwnedTupleGo tg (.ref it) u) Q E s:=by
 unfold letOwnedTupleGo
 cases tg <;> first
   | exact Z56 hQ
   | (cases u <;> first
       | exact Z56 hQ
       | (refine Z55 (wpAny_load ho ?_)
          rw [hc,hd]
          show wpAny M A (if (["enumerate","zip","dict_itemiterator","dict_reverseitemiterator","odict_iterator","itertools.zip_longest","itertools.pairwise"].contains n && vs[0]? == some (rawInt _))=true then _ else _) Q E s
          rw [if_neg (by intro h; rw [hn,Bool.false_and] at h; cases h)]
          exact Z56 hQ))
noncomputable def Itl (K:PySem.W.Frag) (a:Addr):It:=
 ⟨fun i H=>∃ xs x,SqL K H a xs/\xs[i]?=some x,fun i H x H'=>H'=H/\∀ xs,SqL K H a xs->xs[i]?=some x,fun i H=>∃ xs,SqL K H a xs/\xs.length<=i⟩
noncomputable def Itt (K:PySem.W.Frag) (a:Addr):It:=
 ⟨fun i H=>∃ xs x,SqT K H a xs/\xs[i]?=some x,fun i H x H'=>H'=H/\∀ xs,SqT K H a xs->xs[i]?=some x,fun i H=>∃ xs,SqT K H a xs/\xs.length<=i⟩
noncomputable def Itr (lo:Int) (n:Nat):It:=⟨fun i _=>i < n,fun i H x H'=>H'=H/\x=.int (lo+i),fun i _=>n<=i⟩
theorem qt {P:Program} {w:World} {K:PySem.W.Frag} {tg:Expr} (a it:Addr):Turn P w K tg (Itl K a) [it] it (fun i h=>h.IsListIter it a i) where
 mem:=by simp
 obj:=fun i h st b hb=>by
   have e:b=it:=by simpa using hb
   subst e
   obtain ⟨o,e,c,d⟩:=st
   exact ⟨o,e,fun v z=>by rw [d] at z; cases z⟩
 keep:=fun i h h' st k=>st.at fun o e=>k it (by simp) o e
 item:=by
   intro X hP hw hK hc i pins s σ H E I hf st hg
   subst hP hw hK
   obtain ⟨xs,x,hq,hx⟩:=hg
   obtain ⟨its,rv,p,hz⟩:=I.list hq
   obtain ⟨u,hu,ru⟩:=rv.get hx
   obtain ⟨f0,f1,f2,f3,f4,f5⟩:=hf it (by simp)
   refine wpAny_pyNext_list_item st p.isList (x:=u) (by simpa using hu) fun h' st' sb=>?_
   have I1:Inv X pins σ H { s with heap:=h' }:=I.turned (t':=s.toks) (fun b o hb e=>(sb.2 b hb).trans e) f0 f1 f3 f4 f5
   obtain ⟨o,e,c,d⟩:=id st'
   exact ⟨u,rfl,jz (s:={ s with heap:=h' }) e c d (by decide) ⟨x,H,I1,ru,⟨rfl,fun ys hy=>by rw [I.list_inj hy hq]; exact hx⟩,st',fun b hb=>(hf b hb).1⟩⟩
 done:=by
   intro X hP hw hK hc i pins s σ H E I hf st hg
   subst hP hw hK
   obtain ⟨xs,hq,hx⟩:=hg
   obtain ⟨its,rv,p,hz⟩:=I.list hq
   obtain ⟨f0,f1,f2,f3,f4,f5⟩:=hf it (by simp)
   have hl:=rv.length
   exact wpAny_pyNext_list_end (I.ok.hd hc) st p.isList (by simp; omega) fun h' eb=>⟨rfl,I.turned (t':=s.toks) (fun b o hb e=>eb b o hb e) f0 f1 f3 f4 f5⟩
 self:=fun _ _ _ _ _ st h=>wpAny_pyIter_listiter st h
theorem nL {P:Program} {w:World} {K:PySem.W.Frag} {tg:Expr} (a it:Addr):Turn P w K tg (Itt K a) [it] it (fun i h=>h.IsTupleIter it a i) where
 mem:=by simp
 obj:=fun i h st b hb=>by
   have e:b=it:=by simpa using hb
   subst e
   obtain ⟨o,e,c,d⟩:=st
   exact ⟨o,e,fun v z=>by rw [d] at z; cases z⟩
 keep:=fun i h h' st k=>st.at fun o e=>k it (by simp) o e
 item:=by
   intro X hP hw hK hc i pins s σ H E I hf st hg
   subst hP hw hK
   obtain ⟨xs,x,hq,hx⟩:=hg
   obtain ⟨its,rv,p,hz⟩:=I.tuple hq
   obtain ⟨u,hu,ru⟩:=rv.get hx
   obtain ⟨f0,f1,f2,f3,f4,f5⟩:=hf it (by simp)
   refine wpAny_pyNext_tuple_item st (show s.heap.IsTuple a its.toArray from p) (x:=u) (by simpa using hu) fun h' st' sb=>?_
   have I1:Inv X pins σ H { s with heap:=h' }:=I.turned (t':=s.toks) (fun b o hb e=>(sb.2 b hb).trans e) f0 f1 f3 f4 f5
   obtain ⟨o,e,c,d⟩:=id st'
   exact ⟨u,rfl,jz (s:={ s with heap:=h' }) e c d (by decide) ⟨x,H,I1,ru,⟨rfl,fun ys hy=>by rw [I.tuple_inj hy hq]; exact hx⟩,st',fun b hb=>(hf b hb).1⟩⟩
 done:=by
   intro X hP hw hK hc i pins s σ H E I hf st hg
   subst hP hw hK
   obtain ⟨xs,hq,hx⟩:=hg
   obtain ⟨its,rv,p,hz⟩:=I.tuple hq
   obtain ⟨f0,f1,f2,f3,f4,f5⟩:=hf it (by simp)
   have hl:=rv.length
   exact wpAny_pyNext_tuple_end (I.ok.hd hc) st (show s.heap.IsTuple a its.toArray from p) (by simp; omega) fun h' eb=>⟨rfl,I.turned (t':=s.toks) (fun b o hb e=>eb b o hb e) f0 f1 f3 f4 f5⟩
 self:=fun _ _ _ _ _ st h=>wpAny_pyIter_tupleiter st h
theorem nM {P:Program} {w:World} {K:PySem.W.Frag} {tg:Expr} (it:Addr) (lo:Int) (n:Nat):Turn P w K tg (Itr lo n) [it] it (fun i h=>IsRangeIter h it (lo+(i:Nat) * 1) ((n:Int) - (i:Nat)) 1) where
 mem:=by simp
 obj:=fun i h st b hb=>by
   have e:b=it:=by simpa using hb
   subst e
   exact ⟨_,st,fun v z=>by
     have z':Data.fields _=Data.cell v:=z
     cases z'⟩
 keep:=fun i h h' st k=>k it (by simp) _ st
 item:=by
   intro X hP hw hK hc i pins s σ H E I hf st hg
   subst hP hw hK
   obtain ⟨f0,f1,f2,f3,f4,f5⟩:=hf it (by simp)
   have W:=Walks.range (prog:=X.prog) (w:=X.w) (I.ok.hd hc) it lo 1 n
   refine W.item i s _ _ hg st fun v h' tk hv st' kk=>?_
   obtain ⟨t,rfl⟩:=hv
   have I1:Inv X pins σ H { s with heap:=h',toks:=tk }:=I.turned (fun b o hb e=>kk b o (by simpa using hb) e) f0 f1 f3 f4 f5
   refine ⟨_,rfl,jz (s:={ s with heap:=h',toks:=tk }) (n:="range_iterator") st' rfl rfl (by decide) ⟨.int (lo+i),H,I1,⟨t,?_⟩,⟨rfl,rfl⟩,st',fun b hb=>(hf b hb).1⟩⟩
   rw [Int.mul_one]
 done:=by
   intro X hP hw hK hc i pins s σ H E I hf st hg
   subst hP hw hK
   obtain ⟨f0,f1,f2,f3,f4,f5⟩:=hf it (by simp)
   exact wpAny_pyNext_range_end (I.ok.hd hc) st (by have:n<=i:=hg; omega) fun h' eb=>⟨rfl,I.turned (t':=s.toks) (fun b o hb e=>eb b o hb e) f0 f1 f3 f4 f5⟩
 self:=fun _ _ _ _ _ st h=>wpAny_pyIter_rangeiter st h
section
variable {X:Cx} {tg:Expr}
theorem sB {pins:List (Addr × Obj)} {σ:St} {H:Hp} {s:Shared} {R:It->Hp->Prop} {E:Value->Shared->Prop} {lo hi:Int} {t u v:Tok} {tk:Nat} (I:Inv X pins σ H s) (h1:-(2 ^ 62)<=lo) (h2:lo < 2 ^ 62) (h3:-(2 ^ 62)<=hi) (h4:hi < 2 ^ 62)
   (q:R (Itr lo (hi - lo).toNat) H):wpAny (model X.prog X.w) X.A (pyIter (.ref s.heap.objs.size)) (PIE X pins σ tg R) E { s with heap:=s.heap.push { cls:=.type "range",data:=.fields #[.int lo t,.int hi u,.int 1 v] },toks:=tk }:=by
 refine wpAny_pyIter_range (IsRange.new ..) (small_one h1 h2 h3 h4) ?_
 have I1:Inv X pins σ H { s with heap:=s.heap.push { cls:=.type "range",data:=.fields #[.int lo t,.int hi u,.int 1 v] },toks:=tk }:=I.kept fun b o e=>Z7 _ e
 refine ⟨(s.heap.push { cls:=.type "range",data:=.fields #[.int lo t,.int hi u,.int 1 v] }).objs.size,[(s.heap.push { cls:=.type "range",data:=.fields #[.int lo t,.int hi u,.int 1 v] }).objs.size],_,_,H,rfl,
   I1.kept (t':=tk) fun b o e=>Z7 _ e,nM _ lo (hi - lo).toNat,?_,fun b hb=>?_,q⟩
 · have e1:lo+((0:Nat):Int) * 1=lo:=by simp
   have e2:(((hi - lo).toNat:Nat):Int) - ((0:Nat):Int)=Builtin.Range.rangeSize lo hi 1:=by rw [rangeSize_one]; split <;> omega
   show IsRangeIter _ _ (lo+((0:Nat):Int) * 1) ((((hi - lo).toNat:Nat):Int) - ((0:Nat):Int)) 1
   rw [e1,e2]
   exact Z20 _ rfl
 · have e:b=(s.heap.push { cls:=.type "range",data:=.fields #[.int lo t,.int hi u,.int 1 v] }).objs.size:=by simpa using hb
   subst e
   exact I1.fpOk (Z10 _) (I1.hok.fresh (Z10 _))
noncomputable def yS (ta:TA):TI:=fun σ H R=>ta σ H fun vs H1=>∃ j:Int,vs=[.int j]/\-(2 ^ 62)<=j/\j < 2 ^ 62/\R (Itr 0 j.toNat) H1
theorem qu {a:Expr} {ta:TA} {p pos:Pos} (hg:Gl X "range") (hm:X.mg "range"=none) (ha:PA X [a] ta) (hs:starEach [a] X.env=[(false,eval a X.env)]:=by rfl):PI X tg (.Call (.Name "range" p) [a] [] pos) (yS ta):=by
 intro pins s σ H R I h
 refine Call_ (fU I hg hm boot_range (PyProof.Rows.callWith_type1 (thn (ha pos pins s σ H _ I h) fun us s1 ⟨vs,H1,I1,r1,q1⟩=>?_) hs rfl))
 obtain ⟨j,e,q1,q2,q⟩:=q1
 subst e
 cases r1 with
 | cons r rr=>
   cases rr
   obtain ⟨t,rfl⟩:=r
   exact call_range_1 (sB I1 (by omega) (by omega) q1 q2 (by simpa using q))
noncomputable def Ad (wi:TI) (g:TG) (tb:TS):TS:=fun D σ H=>wi σ H fun J H1=>∃ W:Nat->Nat->St->Hp->Prop,(∃ m,W 0 m σ H1)/\∀ i m σ H,W i m σ H ->
 (J.stop i H/\D.nx σ H)∨(J.go i H/\∃ N:St->Hp->Prop,(∀ σ' H',N σ' H'->∃ m',m' < m/\W (i+1) m' σ' H')/\∀ x H',J.yld i H x H'->g x σ H' fun σ2 H2=>tb { D with nx:=N,ct:=N,bk:=D.nx } σ2 H2)
noncomputable def eP (fp:List Addr) (h:Heap):List (Addr × Obj):=fp.filterMap fun b=>(h.get? b).map fun o=>(b,o)
theorem eQ {fp:List Addr} {h:Heap} {b:Addr} {o:Obj} (hb:b ∈ fp) (e:h.get? b=some o):(b,o) ∈ eP fp h:=List.mem_filterMap.mpr ⟨b,hb,by rw [e]; rfl⟩
theorem jA {fp:List Addr} {h:Heap} {p:Addr × Obj} (hp:p ∈ eP fp h):p.1 ∈ fp/\h.get? p.1=some p.2:=by
 obtain ⟨b,hb,e⟩:=List.mem_filterMap.mp hp
 cases q:h.get? b with
 | none=>rw [q] at e; cases e
 | some o=>
   rw [q] at e
   have e':(b,o)=p:=Z27 e
   subst e'
   exact ⟨hb,q⟩
theorem Inv.pinned {pins:List (Addr × Obj)} {σ:St} {H:Hp} {s:Shared} {fp:List Addr} (I:Inv X pins σ H s) (hf:∀ b ∈ fp,eO X pins H b) (ho:∀ b ∈ fp,∃ o,s.heap.get? b=some o/\∀ v,o.data ≠ .cell v):Inv X (pins++eP fp s.heap) σ H s:=
 I.pins_of fun p hp=>(Z11.mp hp).elim (fun z=>I.pin p (Z36 _ z)) fun z=>by
   obtain ⟨hb,e⟩:=jA z
   obtain ⟨f0,f1,f2,_⟩:=hf p.1 hb
   obtain ⟨o,e',d⟩:=ho p.1 hb
   rw [e] at e'; cases e'
   exact ⟨e,f0,f1,f2,d⟩
theorem Inv.unpinned {pins pl:List (Addr × Obj)} {σ:St} {H:Hp} {s:Shared} (I:Inv X (pins++pl) σ H s):Inv X pins σ H s:=I.pins_of fun p hp=>I.pin p (Z36 _ (Z37 _ hp))
theorem Ae {iter:Expr} {body:List Stmt} {wi:TI} {g:TG} {tb:TS} {pos:Pos} (hp:PassesOwn (model X.prog X.w) X.A X.env X.xe) (hc:X.calm=true) (hi:PI X tg iter wi) (hg:PG X tg g) (hb:PSs X body tb)
   (hs:∀ x,foldedSetIterable iter X.env x=pure x:=by intro _; rfl):PS X (.For tg iter body [] pos) (Ad wi g tb):=by
 intro pins s σ H D I h
 refine wpAny_For (thn (hi pins s σ H _ I h) fun v s1 h1=>thn h1 fun itv s2 h2=>?_) hs
 obtain ⟨it,fp,tn,J,H2,e,I2,T,st2,f2,W,⟨m0,w0⟩,turn⟩:=h2
 subst e
 have stat:∀ {H':Hp},(∀ b ∈ fp,H' b=none)->∀ b ∈ fp,eO X pins H' b:=fun hn b hb=>⟨hn b hb,(f2 b hb).2⟩
 refine codeAny_forLoop_any (fun n s'=>FrI X pins fp tn W n s') ?_ m0 ⟨0,σ,H2,I2,st2,fun b hb=>(f2 b hb).1,w0⟩
 rintro n s3 ⟨i,σ3,H3,I3,st3,fr3,w3⟩
 rcases turn i n σ3 H3 w3 with ⟨stop,qn⟩ | ⟨go,N,hN,step⟩
 · refine wpAny_passesOwn hp (thn (T.done X rfl rfl rfl hc i pins s3 σ3 H3 X.xe I3 (stat fr3) st3 stop) fun r s4 ⟨hr,I4⟩=>?_)
   subst hr
   exact wpAny_execs_nil ⟨σ3,H3,I4,qn⟩
 · refine wpAny_passesOwn hp (thn (T.item X rfl rfl rfl hc i pins s3 σ3 H3 X.xe I3 (stat fr3) st3 go) fun r s4 ⟨u,hr,h4⟩=>?_)
   subst hr
   refine wpAny_passesOwn hp (thn h4 fun _ s5 ⟨x,H5,I5,r5,y5,st5,fr5⟩=>?_)
   have I5':=I5.pinned (stat fr5) (T.obj _ _ st5)
   refine wpAny_passesOwn hp (thn (hg _ s5 σ3 H5 x u _ I5' r5 (step x H5 y5)) fun _ s6 ⟨σ6,H6,I6,q6⟩=>?_)
   refine wpAny_passesOwn hp (thn (hb _ s6 σ6 H6 _ I6 q6) fun f s7 q7=>?_)
   have again:∀ {σ7:St} {H7:Hp},Inv X (pins++eP fp s5.heap) σ7 H7 s7->N σ7 H7->∃ m,m < n/\FrI X pins fp tn W m s7:=fun {σ7 H7} I7 n7=>by
     obtain ⟨m',hm,w7⟩:=hN σ7 H7 n7
     refine ⟨m',hm,i+1,σ7,H7,I7.unpinned,T.keep _ _ _ st5 fun b hb o e=>(I7.pin (b,o) (Z36 _ (Z36 _ (eQ hb e)))).1,fun b hb=>?_,w7⟩
     obtain ⟨o,e,d⟩:=T.obj _ _ st5 b hb
     exact (I7.pin (b,o) (Z36 _ (Z36 _ (eQ hb e)))).2.1
   cases f with
   | next=>obtain ⟨σ7,H7,I7,n7⟩:=q7; exact again I7 n7
   | cont=>obtain ⟨σ7,H7,I7,n7⟩:=q7; exact again I7 n7
   | brk=>obtain ⟨σ7,H7,I7,q7⟩:=q7; exact ⟨σ7,H7,I7.unpinned,q7⟩
   | ret v=>obtain ⟨x7,σ7,H7,I7,r7,q7⟩:=q7; exact ⟨x7,σ7,H7,I7.unpinned,r7,q7⟩
end
noncomputable abbrev R2:=V->V->Hp->VK->Prop
noncomputable def OpR (X:Cx) (f:Value->Value->Sem Value) (r:R2):Prop:=
 ∀ (pins:List (Addr × Obj)) (s:Shared) (σ:St) (H:Hp) (x y:V) (v u:Value) (Q:VK),Inv X pins σ H s->RelV x v->RelV y u->r x y H Q ->
   wpAny (model X.prog X.w) X.A (f v u) (EP X pins σ Q) X.xe s
noncomputable def UnR (X:Cx) (f:Value->Sem Value) (r:V->Hp->VK->Prop):Prop:=
 ∀ (pins:List (Addr × Obj)) (s:Shared) (σ:St) (H:Hp) (x:V) (v:Value) (Q:VK),Inv X pins σ H s->RelV x v->r x H Q ->
   wpAny (model X.prog X.w) X.A (f v) (EP X pins σ Q) X.xe s
noncomputable def CallR (X:Cx) (f:Value) (r:List V->Hp->VK->Prop):Prop:=
 ∀ (pins:List (Addr × Obj)) (s:Shared) (σ:St) (H:Hp) (xs:List V) (us:List Value) (Q:VK),Inv X pins σ H s->Vals xs us->r xs H Q ->
   wpAny (model X.prog X.w) X.A (call f us) (EP X pins σ Q) X.xe s
noncomputable def Ep (X:Cx) (r:V->Hp->(Bool->Hp->Prop)->Prop):Prop:=
 ∀ (pins:List (Addr × Obj)) (s:Shared) (σ:St) (H:Hp) (x:V) (v:Value) (Q:Bool->Hp->Prop),Inv X pins σ H s->RelV x v->r x H Q ->
   wpAny (model X.prog X.w) X.A (truthy v) (TP X pins σ Q) X.xe s
noncomputable def tOp (r:R2) (ta tb:TE):TE:=fun σ H Q=>ta σ H fun x H1=>tb σ H1 fun y H2=>r x y H2 Q
noncomputable def tUn (r:V->Hp->VK->Prop) (ta:TE):TE:=fun σ H Q=>ta σ H fun x H1=>r x H1 Q
noncomputable def rI (C:Int->Int->Prop) (g:Int->Int->V):R2:=fun x y H Q=>∃ i j,x=.int i/\y=.int j/\C i j/\Q (g i j) H
noncomputable def rI0 (g:Int->Int->V):R2:=fun x y H Q=>∃ i j,x=.int i/\y=.int j/\Q (g i j) H
noncomputable def rU (g:Int->V):V->Hp->VK->Prop:=fun x H Q=>∃ i,x=.int i/\Q (g i) H
section
variable {X:Cx} {a b c:Expr} {ta tb tc:TE} {pos:Pos}
theorem Af (ha:PE X a ta) (hb:PE X b tb) {pins:List (Addr × Obj)} {s:Shared} {σ:St} {H:Hp} {R:V->V->Hp->Prop} (I:Inv X pins σ H s)
   (h:ta σ H fun x H1=>tb σ H1 fun y H2=>R x y H2) {Q:Value->Shared->Prop} {f:Value->Value->Sem Value}
   (hf:∀ v u s2 x y H2,Inv X pins σ H2 s2->RelV x v->RelV y u->R x y H2->wpAny (model X.prog X.w) X.A (f v u) Q X.xe s2) :
   wpAny (model X.prog X.w) X.A (eval a X.env) (fun v s₁=>wpAny (model X.prog X.w) X.A (eval b X.env) (fun u s₂=>wpAny (model X.prog X.w) X.A (f v u) Q X.xe s₂) X.xe s₁) X.xe s:=by
 refine thn (ha pins s σ H _ I h) fun v s1 ⟨x,H1,I1,r1,q1⟩=>?_
 refine thn (hb pins s1 σ H1 _ I1 q1) fun u s2 ⟨y,H2,I2,r2,q2⟩=>?_
 exact hf v u s2 x y H2 I2 r1 r2 q2
theorem sC {op:Operator} {r:R2} (ho:OpR X (binaryOp op) r) (ha:PE X a ta) (hb:PE X b tb):PE X (.BinOp a op b pos) (tOp r ta tb):=by
 intro pins s σ H Q I h
 exact wpAny_BinOp (Af ha hb I h fun v u s2 x y H2 I2 rx ry q=>ho pins s2 σ H2 x y v u Q I2 rx ry q)
theorem Ct {op:UnaryOp} {r:V->Hp->VK->Prop} (ho:UnR X (unaryOp op) r) (ha:PE X a ta):PE X (.UnaryOp op a pos) (tUn r ta):=by
 intro pins s σ H Q I h
 exact UnaryOp_ (thn (ha pins s σ H _ I h) fun v s1 ⟨x,H1,I1,r1,q1⟩=>ho pins s1 σ H1 x v Q I1 r1 q1)
theorem opI {f:Value->Value->Sem Value} {C:Int->Int->Prop} {g:Int->Int->Int}
   (rule:∀ (i j:Int) (t u:Tok) (s:Shared) (Q:Value->Shared->Prop) (E:Value->Shared->Prop),C i j->Q (.int (g i j) s.toks) { s with toks:=s.toks+1 }->wpAny (model X.prog X.w) X.A (f (.int i t) (.int j u)) Q E s) :
   OpR X f (rI C fun i j=>.int (g i j)):=by
 intro pins s σ H x y v u Q I rx ry h
 obtain ⟨i,j,rfl,rfl,hc,q⟩:=h
 obtain ⟨t,rfl⟩:=rx
 obtain ⟨t',rfl⟩:=ry
 exact rule i j t t' s _ _ hc ⟨.int (g i j),H,I.tok _,⟨_,rfl⟩,q⟩
theorem Cu {f:Value->Value->Sem Value} {g:Int->Int->Int}
   (rule:∀ (i j:Int) (t u:Tok) (s:Shared) (Q:Value->Shared->Prop) (E:Value->Shared->Prop),Q (.int (g i j) s.toks) { s with toks:=s.toks+1 }->wpAny (model X.prog X.w) X.A (f (.int i t) (.int j u)) Q E s) :
   OpR X f (rI0 fun i j=>.int (g i j)):=by
 intro pins s σ H x y v u Q I rx ry h
 obtain ⟨i,j,rfl,rfl,q⟩:=h
 obtain ⟨t,rfl⟩:=rx
 obtain ⟨t',rfl⟩:=ry
 exact rule i j t t' s _ _ ⟨.int (g i j),H,I.tok _,⟨_,rfl⟩,q⟩
theorem Cv {f:Value->Value->Sem Value} {g:Int->Int->Bool}
   (rule:∀ (i j:Int) (t u:Tok) (s:Shared) (Q:Value->Shared->Prop) (E:Value->Shared->Prop),Q (.bool (g i j)) s->wpAny (model X.prog X.w) X.A (f (.int i t) (.int j u)) Q E s) :
   OpR X f (rI0 fun i j=>.bl (g i j)):=by
 intro pins s σ H x y v u Q I rx ry h
 obtain ⟨i,j,rfl,rfl,q⟩:=h
 obtain ⟨t,rfl⟩:=rx
 obtain ⟨t',rfl⟩:=ry
 exact rule i j t t' s _ _ ⟨.bl (g i j),H,I,rfl,q⟩
noncomputable def Cw (i j:Int):Prop:=0<=j/\j<=1000000/\i.natAbs < 2 ^ 64
noncomputable def CMul (i j:Int):Prop:=(-(2 ^ 64) < i/\i < 2 ^ 64)∨(-(2 ^ 64) < j/\j < 2 ^ 64)
theorem CMul.ok {i j:Int} (h:CMul i j):IntMulOk i j:=by
 rcases h with ⟨h1,h2⟩ | ⟨h1,h2⟩
 · exact .of_left (intBits_le_64 h1 h2)
 · exact .of_right (intBits_le_64 h1 h2)
theorem nN:OpR X (binaryOp .Add) (rI0 fun i j=>.int (i+j)):=Cu fun _ _ _ _ _ _ _ q=>add_int q
theorem nO:OpR X (binaryOp .Sub) (rI0 fun i j=>.int (i - j)):=Cu fun _ _ _ _ _ _ _ q=>sub_int q
theorem Ag:OpR X (binaryOp .Mult) (rI CMul fun i j=>.int (i * j)):=opI fun _ _ _ _ _ _ _ hc q=>mul_int q hc.ok
theorem nP:OpR X (binaryOp .Mod) (rI (fun _ j=>0 < j) fun i j=>.int (i % j)):=opI fun i j _ _ _ _ _ hc q=>by
 have h1:(0:Int) < j:=hc
 exact mod_int' (by omega) (by rw [Int.fmod_eq_emod_of_nonneg i (by omega)]; exact q)
theorem unI {f:Value->Sem Value} {g:Int->Int}
   (rule:∀ (i:Int) (t:Tok) (s:Shared) (Q:Value->Shared->Prop) (E:Value->Shared->Prop),Q (.int (g i) s.toks) { s with toks:=s.toks+1 }->wpAny (model X.prog X.w) X.A (f (.int i t)) Q E s) :
   UnR X f (rU fun i=>.int (g i)):=by
 intro pins s σ H x v Q I rx h
 obtain ⟨i,rfl,q⟩:=h
 obtain ⟨t,rfl⟩:=rx
 exact rule i t s _ _ ⟨.int (g i),H,I.tok _,⟨_,rfl⟩,q⟩
theorem nQ:UnR X (unaryOp .USub) (rU fun i=>.int (-i)):=unI fun _ _ _ _ _ q=>neg_int q
theorem qv:OpR X (binaryOp .Add) (fun x y H Q=>∃ i k,x=.int i/\y=.bl k/\Q (.int (i+b2i k)) H):=by
 intro pins s σ H x y v u Q I rx ry h
 obtain ⟨i,k,rfl,rfl,q⟩:=h
 obtain ⟨t,rfl⟩:=rx
 cases ry
 exact add_int_bool ⟨.int (i+b2i k),H,I.tok _,⟨_,rfl⟩,q⟩
end
section
variable {X:Cx} {a b c:Expr} {ta tb tc:TE} {pos:Pos}
theorem sD {pins:List (Addr × Obj)} {σ:St} {H:Hp} {s:Shared} {Q:VK} {k k':Bool} (I:Inv X pins σ H s) (q:Q (.bl k) H) (e:k=k'):EP X pins σ Q (.bool k') s:=by
 subst e
 exact ⟨.bl k,H,I,rfl,q⟩
theorem Cy:OpR X (compareOp .Lt) (rI0 fun i j=>.bl (decide (i < j))):=Cv fun _ _ _ _ _ _ _ q=>lt_int q
theorem Cz:OpR X (compareOp .Gt) (rI0 fun i j=>.bl (decide (j < i))):=Cv fun _ _ _ _ _ _ _ q=>gt_int q
theorem kM:OpR X (compareOp .Is) (fun x y H Q=>y=.non/\Q (.bl (decide (x=.non))) H):=by
 intro pins s σ H x y v u Q I rx ry h
 obtain ⟨rfl,q⟩:=h
 cases ry
 refine is_none_gen (sD I q ?_)
 cases x <;> first
   | (cases rx; rfl)
   | (obtain ⟨t,rfl⟩:=rx; rfl)
theorem gX:OpR X (compareOp .IsNot) (fun x y H Q=>y=.non/\Q (.bl (!decide (x=.non))) H):=by
 intro pins s σ H x y v u Q I rx ry h
 obtain ⟨rfl,q⟩:=h
 cases ry
 refine isnot_none_gen (sD I q ?_)
 cases x <;> first
   | (cases rx; rfl)
   | (obtain ⟨t,rfl⟩:=rx; rfl)
theorem Ah (b:Expr) {op:CmpOp} (h:op ≠ .In:=by decide) (h2:op ≠ .NotIn:=by decide):behindInMarks op b=false:=by
 have e1:(op == CmpOp.In)=false:=by cases op <;> first | rfl | exact absurd rfl h
 have e2:(op == CmpOp.NotIn)=false:=by cases op <;> first | rfl | exact absurd rfl h2
 cases b <;> simp [behindInMarks,e1,e2]
theorem vP {op:CmpOp} {r:R2} (ho:OpR X (compareOp op) r) (ha:PE X a ta) (hb:PE X b tb) (hm:behindInMarks op b=false):PE X (.Compare a [op] [b] pos) (tOp r ta tb):=by
 intro pins s σ H Q I h
 exact wpAny_Compare1 (Af ha hb I h fun v u s2 x y H2 I2 rx ry q=>ho pins s2 σ H2 x y v u Q I2 rx ry q) hm
noncomputable def yT (t:TE):TT:=fun σ H Q=>t σ H fun x H'=>∃ k,x=.bl k/\Q k H'
theorem vQ {op:CmpOp} {r:R2} (ho:OpR X (compareOp op) r) (ha:PE X a ta) (hb:PE X b tb) (hm:behindInMarks op b=false):PT X (.Compare a [op] [b] pos) (yT (tOp r ta tb)):=by
 intro pins s σ H Q I h
 refine wpAny_isTrue_Compare1 (thn (ha pins s σ H _ I h) fun v s1 ⟨x,H1,I1,r1,q1⟩=>thn (hb pins s1 σ H1 _ I1 q1) fun u s2 ⟨y,H2,I2,r2,q2⟩=>
   thn (ho pins s2 σ H2 x y v u _ I2 r1 r2 q2) fun c s3 ⟨z,H3,I3,r3,k,e,q3⟩=>?_) hm
 subst e
 cases r3
 exact wpAny_truthy_bool ⟨H3,I3,q3⟩
noncomputable def Ai (K:PySem.W.Frag) (x:V) (H:Hp) (k:Bool):Prop:=
 match x with
 | .non=>k=false
 | .bl b=>k=b
 | .int i=>k=(i != 0)
 | .str y=>y.length<=sizeLine/\k=((y.length:Int) != 0)
 | .byt y=>y.size<=sizeLine/\k=((y.size:Int) != 0)
 | .ref p=>(∃ xs,SqL K H p xs/\k=!xs.isEmpty)∨(∃ xs,SqT K H p xs/\k=!xs.isEmpty)∨∃ kvs,H p=some (.dK kvs)/\k=!kvs.isEmpty
 | _=>False
theorem nR {κ:Type} {kvs:List (κ × V)} {vs:List (κ × Value)} (r:KV kvs vs):(!vs.isEmpty)=!kvs.isEmpty:=by
 cases r <;> rfl
theorem ik {xs:List V} {its:List Value} (r:Vals xs its):(!its.toArray.isEmpty)=!xs.isEmpty:=by
 cases r <;> simp
theorem fW:(sizeLine:Nat) < 2 ^ 63:=by rw [sizeLine_eq]; decide
theorem Aj:Ep X (fun x H Q=>∃ k,Ai X.K x H k/\Q k H):=by
 intro pins s σ H x v Q I rx h
 obtain ⟨k,e,q⟩:=h
 have hl:=fW
 have hs:sizeLine=16777216:=sizeLine_eq
 cases x with
 | non=>
   cases rx
   have e':k=false:=e
   subst e'
   exact truthy_none ⟨H,I,q⟩
 | bl b=>
   cases rx
   have e':k=b:=e
   subst e'
   exact wpAny_truthy_bool ⟨H,I,q⟩
 | int i=>
   obtain ⟨t,rfl⟩:=rx
   have e':k=(i != 0):=e
   subst e'
   exact PySem.P.truthy_int ⟨H,I,q⟩
 | str y=>
   obtain ⟨t,rfl⟩:=rx
   obtain ⟨hy,e'⟩:y.length<=sizeLine/\k=((y.length:Int) != 0):=e
   subst e'
   exact PySem.P.truthy_str (by omega) ⟨H,I.tok _,q⟩
 | byt y=>
   obtain ⟨t,rfl⟩:=rx
   obtain ⟨hy,e'⟩:y.size<=sizeLine/\k=((y.size:Int) != 0):=e
   subst e'
   exact PySem.W.truthy_bytes (by omega) ⟨H,I.tok _,q⟩
 | ref p=>
   cases rx
   have e':(∃ xs,SqL X.K H p xs/\k=!xs.isEmpty)∨(∃ xs,SqT X.K H p xs/\k=!xs.isEmpty)∨∃ kvs,H p=some (.dK kvs)/\k=!kvs.isEmpty:=e
   rcases e' with ⟨xs,hx,e'⟩ | ⟨xs,hx,e'⟩ | ⟨kvs,hx,e'⟩
   · subst e'
     obtain ⟨its,r,pl,hz⟩:=I.list hx
     have hlen:=r.length
     exact wpAny_truthy_list pl.isList (by simp only [Z4]; omega) ⟨H,I.tok _,by rw [ik r]; exact q⟩
   · subst e'
     obtain ⟨its,r,pl,hz⟩:=I.tuple hx
     have hlen:=r.length
     exact truthy_tuple pl (by simp only [Z4]; omega) ⟨H,I.tok _,by rw [ik r]; exact q⟩
   · subst e'
     obtain ⟨hz,hS,vs,r,m⟩:kvs.length<=sizeLine/\(p == sysModules)=false/\∃ vs,KV kvs vs/\s.heap.DictOf (aI X.prog X.w) p vs:=I.hok p _ hx
     have hlen:kvs.length=vs.length:=Paired.length r
     exact wpAny_truthy_dict hS m (by omega) ⟨H,I.tok _,by rw [nR r]; exact q⟩
 | _=>exact (show False from e).elim
theorem sE (ha:PE X a ta) (he:∀ whole,isTrue a X.env whole=(do let v <- whole; standAt a.pos; holding [v] (truthy v))) :
   PT X a (fun σ H Q=>ta σ H fun x H'=>∃ k,Ai X.K x H' k/\Q k H'):=by
 intro pins s σ H Q I h
 exact isTrue_plain (thn (ha pins s σ H _ I h) fun v s1 ⟨x,H1,I1,r1,q1⟩=>Aj pins s1 σ H1 x v Q I1 r1 q1) (he _)
theorem nS:OpR X (binaryOp .Add) (fun x y H Q=>∃ i j,x=.str i/\y=.str j/\i.length+j.length<=sizeLine/\Q (.str (i++j)) H):=by
 intro pins s σ H x y v u Q I rx ry h
 obtain ⟨i,j,rfl,rfl,hz,q⟩:=h
 obtain ⟨t,rfl⟩:=rx
 obtain ⟨t',rfl⟩:=ry
 exact add_str (fun t' tk=>⟨.str (i++j),H,I.tok _,⟨_,rfl⟩,q⟩) hz
theorem dh {x:V} {us:List Value} (r:Vals [x] us):∃ u,us=[u]/\RelV x u:=by
 cases r with
 | cons r1 r2=>cases r2; exact ⟨_,rfl,r1⟩
theorem sF {x y:V} {us:List Value} (r:Vals [x,y] us):∃ u w',us=[u,w']/\RelV x u/\RelV y w':=by
 cases r with
 | cons r1 r2=>
   cases r2 with
   | cons r3 r4=>cases r4; exact ⟨_,_,rfl,r1,r3⟩
theorem qw (hc:X.calm=true):CallR X (.builtin "max") (fun xs H Q=>∃ i j,xs=[.int i,.int j]/\Q (.int (if j > i then j else i)) H):=by
 intro pins s σ H xs us Q I r h
 obtain ⟨i,j,rfl,q⟩:=h
 obtain ⟨u,w',rfl,⟨t,rfl⟩,⟨t',rfl⟩⟩:=sF r
 refine max_two_ints (I.ok.hd hc) fun h' tk k=>⟨_,H,I.kept k,?_,q⟩
 by_cases hj:j > i
 · rw [if_pos hj,if_pos hj]; exact ⟨_,rfl⟩
 · rw [if_neg hj,if_neg hj]; exact ⟨_,rfl⟩
theorem qx (hc:X.calm=true):CallR X (.builtin "min") (fun xs H Q=>∃ i j,xs=[.int i,.int j]/\Q (.int (if j < i then j else i)) H):=by
 intro pins s σ H xs us Q I r h
 obtain ⟨i,j,rfl,q⟩:=h
 obtain ⟨u,w',rfl,⟨t,rfl⟩,⟨t',rfl⟩⟩:=sF r
 refine min_two_ints (I.ok.hd hc) fun h' tk k=>⟨_,H,I.kept k,?_,q⟩
 by_cases hj:j < i
 · rw [if_pos hj,if_pos hj]; exact ⟨_,rfl⟩
 · rw [if_neg hj,if_neg hj]; exact ⟨_,rfl⟩
theorem qy:CallR X (.type "int") (fun xs H Q=>(∃ i,xs=[.int i]/\Q (.int i) H)∨∃ k,xs=[.bl k]/\Q (.int (if k then 1 else 0)) H):=by
 intro pins s σ H xs us Q I r h
 rcases h with ⟨i,rfl,q⟩ | ⟨k,rfl,q⟩
 · obtain ⟨u,rfl,t,rfl⟩:=dh r
   exact call_int_int ⟨.int i,H,I,⟨_,rfl⟩,q⟩
 · obtain ⟨u,rfl,r1⟩:=dh r
   cases r1
   exact call_int_bool ⟨.int (if k then 1 else 0),H,I.tok _,⟨_,rfl⟩,q⟩
noncomputable def CA (K:PySem.W.Frag) (x:V) (H:Hp) (n:Nat):Prop:=
 match x with
 | .str y=>y.length<=sizeLine/\n=y.length
 | .byt y=>y.size<=sizeLine/\n=y.size
 | .ref p=>(∃ xs,SqL K H p xs/\n=xs.length)∨∃ xs,SqT K H p xs/\n=xs.length
 | _=>False
theorem sG:CallR X (.builtin "len") (fun xs H Q=>∃ x n,xs=[x]/\CA X.K x H n/\Q (.int n) H):=by
 intro pins s σ H xs us Q I r h
 obtain ⟨x,n,rfl,e,q⟩:=h
 obtain ⟨u,rfl,rx⟩:=dh r
 have hl:=fW
 have hs:sizeLine=16777216:=sizeLine_eq
 cases x with
 | str y=>
   obtain ⟨t,rfl⟩:=rx
   obtain ⟨hy,e'⟩:y.length<=sizeLine/\n=y.length:=e
   subst e'
   exact len_str (by omega) ⟨.int _,H,I.tok _,⟨_,rfl⟩,q⟩
 | byt y=>
   obtain ⟨t,rfl⟩:=rx
   obtain ⟨hy,e'⟩:y.size<=sizeLine/\n=y.size:=e
   subst e'
   exact PySem.W.len_bytes (by omega) ⟨.int _,H,I.tok _,⟨_,rfl⟩,q⟩
 | ref p=>
   cases rx
   have e':(∃ xs,SqL X.K H p xs/\n=xs.length)∨∃ xs,SqT X.K H p xs/\n=xs.length:=e
   rcases e' with ⟨xs,hx,e'⟩ | ⟨xs,hx,e'⟩
   · subst e'
     obtain ⟨its,r',pl,hz⟩:=I.list hx
     have hlen:=r'.length
     exact Calls.call_len_list pl.isList (by simp only [Z4]; omega) ⟨.int xs.length,H,I.tok _,⟨_,by simp only [Z4]; rw [hlen]⟩,q⟩
   · subst e'
     obtain ⟨its,r',pl,hz⟩:=I.tuple hx
     have hlen:=r'.length
     exact len_tuple pl (by simp only [Z4]; omega) ⟨.int xs.length,H,I.tok _,⟨_,by simp only [Z4]; rw [hlen]⟩,q⟩
 | _=>exact (show False from e).elim
end
structure ObjM (h:Heap) (x dx C:Addr) (mA:Str->Option Value):Prop where
 obj:h.get? x=some (PySem.W.instObj C dx)
 ns:h.Ns1 dx mA
 ne:dx ≠ x
theorem qz {h:Heap} {dx:Addr} {mA:Str->Option Value} (n:h.Ns1 dx mA):∃ od,h.get? dx=some od/\∀ name,PySem.W.lookIn name od=some (mA name):=by
 obtain ⟨o,es,ep,ho,hd,hk,_,hm⟩:=n
 refine ⟨o,ho,fun name=>?_⟩
 have e:=hm name
 unfold nsFind findBy at e
 rw [<- Array.find?_toList] at e
 unfold PySem.W.lookIn
 rw [hd]
 dsimp only
 split
 · rename_i y q
   rw [q] at e
   exact congrArg some e
 · rename_i q
   rw [q] at e
   have a:es.toList.any (·.refKey)=false:=by
     rw [List.any_eq_false]
     intro y hy
     obtain ⟨z,t,hkey⟩:=hk y (Array.mem_toList_iff.mp hy)
     simp [DictEntry.refKey,hkey]
   have a':¬ es.toList.any (·.refKey)=true:=by rw [a]; exact Z28
   rw [if_neg a']
   exact congrArg some e
theorem ObjM.look {h:Heap} {x dx C:Addr} {mA:Str->Option Value} (I:ObjM h x dx C mA):∃ od,PySem.W.InstAt h x (PySem.W.instObj C dx) C (some od)/\∀ name,PySem.W.lookIn name od=some (mA name):=
 let ⟨od,ho,hl⟩:=qz I.ns
 ⟨od,⟨I.obj,rfl,rfl,ho⟩,hl⟩
theorem RelO.some_of {v:V} {o:Option Value} (r:RelO (some v) o):∃ u,o=some u/\RelV v u:=by
 cases o with
 | none=>exact (show False from r).elim
 | some u=>exact ⟨u,rfl,r⟩
theorem RelO.none_of {o:Option Value} (r:RelO none o):o=none:=by
 cases o with
 | none=>rfl
 | some u=>exact (show False from r).elim
section
variable {P:Program} {w:World} {H H':Hp} {h h':Heap} {a C dx:Addr} {fs fs':List (Str × V)}
theorem vR (hok:HOk P w H h) (e:H a=some (.ins C dx fs)):∃ mA,ObjM h a dx C mA/\(∀ f,RelO (fs.lookup f) (mA f))/\PySem.Within mA (fs.map (·.1))/\fs.length<=1000/\H dx=some (.own a):=by
 obtain ⟨d,z,ne,ob,mA,n,r,q⟩:=(show ObjOk P w H h a (.ins C dx fs) from hok a _ e)
 exact ⟨mA,⟨ob,n,ne⟩,r,q,z,d⟩
end
structure Cls (K:PySem.W.Frag) (C:Addr):Prop where
 pg:PySem.W.plainGet K C Str.empty=true
 hd:PySem.W.hasDictIn K C=true
 po:PySem.W.plainOver K C=true
 sa:PySem.W.findIn K (.ref C) "__setattr__"=some (some (.builtin "object.__setattr__"))
theorem Cls.get {K:PySem.W.Frag} {C:Addr} (c:Cls K C) (f:Str):PySem.W.plainGet K C f=true:=c.pg
section
variable {X:Cx} {pins:List (Addr × Obj)} {σ:St} {H:Hp} {s:Shared} {A:Around} {E:Value->Shared->Prop} {Q:Value->Shared->Prop} {c:Value} {b:Bool}
set_option genInjectivity true in
inductive TyOf (K:PySem.W.Frag) (H:Hp):V->Value->Prop where
 | non:TyOf K H .non (.type "NoneType")
 | bl (x:Bool):TyOf K H (.bl x) (.type "bool")
 | int (i:Int):TyOf K H (.int i) (.type "int")
 | str (x:Str):TyOf K H (.str x) (.type "str")
 | flt (x:UInt64):TyOf K H (.flt x) (.type "float")
 | lst {a:Addr} {xs:List V} (e:H a=some (.lst xs)):TyOf K H (.ref a) (.type "list")
 | frz {a:Addr} {o:Obj} {xs:List V} (e:H a=some (.frz o (.lst xs))):TyOf K H (.ref a) (.type "list")
 | tup {a:Addr} {xs:List V} (e:H a=some (.tup xs)):TyOf K H (.ref a) (.type "tuple")
 | dK {a:Addr} {kvs:List (Key × V)} (e:H a=some (.dK kvs)):TyOf K H (.ref a) (.type "dict")
 | dT {a:Addr} {kvs:List (List Key × V)} (e:H a=some (.dT kvs)):TyOf K H (.ref a) (.type "dict")
 | ins {a C dx:Addr} {fs:List (Str × V)} (e:H a=some (.ins C dx fs)) (cl:Cls K C) (ha:PySem.W.findIn K (.ref C) "__class__"=some (some (.builtin "object.__class__")))
     (hn:PySem.W.specialIn K (.builtin "object.__class__") "__get__"=some (some (.builtin "getset_descriptor.__get__"))) (htk:PySem.W.takesIn K (.builtin "object.__class__")=some true)
     (hm:PySem.W.mroIn K C (.type "object")=some true):TyOf K H (.ref a) (.ref C)
theorem dQ {x:V} {u t:Value} (I:Inv X pins σ H s) (rx:RelV x u) (ty:TyOf X.K H x t) (e:PySem.W.kitOne X.K t c=some b) (h:∀ tk,Q (.bool b) { s with toks:=tk }) :
   wpAny (model X.prog X.w) A (call (.builtin "isinstance") [u,c]) Q E s:=by
 cases ty with
 | non=>cases (show u=Value.none from rx); exact PySem.W.kia_one PySem.W.kitx_none I.kIn True.intro e (fun z=>nomatch z) h
 | bl y=>cases (show u=Value.bool y from rx); exact PySem.W.kia_one PySem.W.kitx_bool I.kIn True.intro e (fun z=>nomatch z) h
 | int i=>obtain ⟨t,q⟩:=(show ∃ t,u=Value.int i t from rx); cases q; exact PySem.W.kia_one PySem.W.kitx_int I.kIn True.intro e (fun z=>nomatch z) h
 | str y=>obtain ⟨t,q⟩:=(show ∃ t,u=Value.str y t from rx); cases q; exact PySem.W.kia_one PySem.W.kitx_str I.kIn True.intro e (fun z=>nomatch z) h
 | flt y=>obtain ⟨t,q⟩:=(show ∃ t,u=Value.float y t from rx); cases q; exact PySem.W.kia_one PySem.W.kitx_float I.kIn True.intro e (fun z=>nomatch z) h
 | @lst a xs ea=>
   cases (show u=Value.ref a from rx)
   obtain ⟨_,_,n,_,h1⟩:=(show ObjOk X.prog X.w H s.heap a (.lst xs) from I.hok a _ ea)
   exact PySem.W.kia_one PySem.W.kitx_list I.kIn ⟨_,h1,rfl⟩ e (fun z=>nomatch z) h
 | @frz a ob xs ea=>
   cases (show u=Value.ref a from rx)
   obtain ⟨_,_,_,n,_,h1⟩:=(show ObjOk X.prog X.w H s.heap a (.frz ob (.lst xs)) from I.hok a _ ea)
   exact PySem.W.kia_one PySem.W.kitx_list I.kIn ⟨_,h1,rfl⟩ e (fun z=>nomatch z) h
 | @tup a xs ea=>
   cases (show u=Value.ref a from rx)
   obtain ⟨_,_,_,p⟩:=(show ObjOk X.prog X.w H s.heap a (.tup xs) from I.hok a _ ea)
   obtain ⟨o,h1,h2,_⟩:=p
   exact PySem.W.kia_one PySem.W.kitx_tuple I.kIn ⟨o,h1,h2⟩ e (fun z=>nomatch z) h
 | @dK a kvs ea=>
   cases (show u=Value.ref a from rx)
   obtain ⟨_,_,vs,_,p⟩:=(show ObjOk X.prog X.w H s.heap a (.dK kvs) from I.hok a _ ea)
   obtain ⟨o,es,ep,h1,h2,_⟩:=p
   exact PySem.W.kia_one PySem.W.kitx_dict I.kIn ⟨o,h1,h2.1⟩ e (fun z=>nomatch z) h
 | @dT a kvs ea=>
   cases (show u=Value.ref a from rx)
   obtain ⟨_,_,xs,_,o,es,ep,h1,h2,_⟩:=(show ObjOk X.prog X.w H s.heap a (.dT kvs) from I.hok a _ ea)
   exact PySem.W.kia_one PySem.W.kitx_dict I.kIn ⟨o,h1,h2.1⟩ e (fun z=>nomatch z) h
 | @ins a C dx fs ea cl ha hn htk hm=>
   cases (show u=Value.ref a from rx)
   obtain ⟨mA,O,_⟩:=vR I.hok ea
   obtain ⟨od,J,_⟩:=O.look
   exact PySem.W.kia_one (PySem.W.kitx_own (cl.get _) cl.hd ha hn htk hm) I.kIn J e (fun z=>nomatch z) h
end
structure Room (k:Nat) (A:Around):Prop where
 hd:A.handled=none
 dp:A.depth+3 * k+5 < recursionLimit
 un:A.units+16 * k+200 < cLine
 gd:A.guards=some []:=by rfl
theorem Room.mono {j k:Nat} {A:Around} (r:Room k A) (h:j<=k):Room j A:=⟨r.hd,by have:=r.dp; omega,by have:=r.un; omega,r.gd⟩
theorem Room.deeper {k:Nat} {A:Around} (r:Room (k+1) A) (env:Env):Room k (A.deeper env):=
 ⟨r.hd,by have:=r.dp; show A.depth+1+3 * k+5 < _; omega,by have:=r.un; show A.units+3+16 * k+200 < _; omega,r.gd⟩
theorem Room.depth {k:Nat} {A:Around} (r:Room k A):A.depth < recursionLimit:=by have:=r.dp; omega
noncomputable def eK:TA:=fun _ H Q=>Q [] H
noncomputable def b9 (ta:TE) (tr:TA):TA:=fun σ H Q=>ta σ H fun x H1=>tr σ H1 fun xs H2=>Q (x::xs) H2
section
variable {X:Cx} {e:Expr} {es:List Expr} {te:TE} {t:TA} {pos:Pos}
theorem Ak:PA X [] eK:=fun _ _ _ _ H Q I h=>Calls.spliced_nil ⟨[],H,I,.nil,h⟩
theorem vS (ha:PE X e te) (hr:PA X es t) (hs:starEach (e::es) X.env=(false,eval e X.env)::starEach es X.env:=by rfl):PA X (e::es) (b9 te t):=by
 intro pos pins s σ H Q I h
 rw [hs]
 show wpAny _ _ (spliced ((false,eval e X.env)::backTo pos (starEach es X.env))) _ _ s
 refine Calls.spliced_cons (thn (ha pins s σ H _ I h) fun u s1 ⟨x,H1,I1,r1,q1⟩=>?_)
 exact thn (hr pos pins s1 σ H1 _ I1 q1) fun us s2 ⟨xs,H2,I2,r2,q2⟩=>⟨x::xs,H2,I2,.cons r1 r2,q2⟩
noncomputable def vT (t:TA):TE:=fun σ H Q=>t σ H fun xs H1=>xs.length<=sizeLine/\∀ p,H1 p=none->Q (.ref p) (upd H1 p (.tup xs))
noncomputable def nT (t:TA):TE:=fun σ H Q=>t σ H fun xs H1=>xs.length<=sizeLine/\∀ p,H1 p=none->Q (.ref p) (upd H1 p (.lst xs))
theorem Al {x1} (h:PA X es t):PE X (.Tuple es x1 pos) (vT t):=by
 intro pins s σ H Q I hq
 refine wpAny_Tuple_spliced (thn (h pos pins s σ H _ I hq) fun us s1 ⟨xs,H1,I1,r,z,q⟩=>⟨by rw [<- r.length]; exact z,?_⟩)
 have hf:H1 s1.heap.objs.size=none:=I1.hok.fresh (Z10 _)
 refine ⟨.ref s1.heap.objs.size,upd H1 s1.heap.objs.size (.tup xs),I1.laid (t':=s1.toks) (fun b u e=>Z7 _ e) (Z10 _) ?_,rfl,q _ hf⟩
 exact ⟨z,us,r,⟨_,Z20 _ rfl,rfl,_,rfl⟩⟩
theorem Am (h:PA X es t):PE X (.List es pos) (nT t):=by
 intro pins s σ H Q I hq
 refine wpAny_List_spliced (thn (h pos pins s σ H _ I hq) fun us s1 ⟨xs,H1,I1,r,z,q⟩=>⟨by rw [<- r.length]; exact z,?_⟩)
 have hf:H1 s1.heap.objs.size=none:=I1.hok.fresh (Z10 _)
 refine ⟨.ref s1.heap.objs.size,upd H1 s1.heap.objs.size (.lst xs),I1.laid (t':=s1.toks) (fun b u e=>Z7 _ e) (Z10 _) ?_,rfl,q _ hf⟩
 exact ⟨z,us,0,r,Z20 _ rfl⟩
end
noncomputable abbrev Sp:=List V->Hp->VK->XK->Prop
noncomputable abbrev CXT:=List Env->Hp->Shared->XK->Value->Shared->Prop
structure Env0 (P:Program) (w:World) (K:PySem.W.Frag) (mg:Str->Option Value) (base:Heap) (A:Around) (outer:List Env) (s:Shared) (H:Hp):Prop where
 frames:A.frames=some outer
 mod:Mod K mg base
 bs:∀ b o,base.get? b=some o->s.heap.get? b=some o/\H b=none
 bsz:base.objs.size<=s.heap.objs.size
 funs:s.heap.FunFrames base outer
 frf:∀ b ∈ frs outer,H b=none
 hok:HOk P w H s.heap
 bare:AllBare s.gens
inductive CE (outer:List Env) (P:Program) (w:World) (H:Hp) (s:Shared) (Q:VK) (u:Value) (s':Shared):Prop
 | mk (v:V) (H':Hp) (o:s'.os=s.os) (b:AllBare s'.gens) (n:Un (frs outer) [] H H' s.heap s'.heap) (k:HOk P w H' s'.heap) (r:RelV v u) (q:Q v H'):CE outer P w H s Q u s'
noncomputable def CR (CX:CXT) (outer:List Env) (P:Program) (w:World) (H:Hp) (s:Shared) (Q:VK) (E:XK) (r:Result) (s':Shared):Prop:=
 match r with
 | .ok (.ret u)=>CE outer P w H s Q u s'
 | .ok _=>False
 | .error e=>CX outer H s E e s'
structure FnOk (P:Program) (w:World) (K:PySem.W.Frag) (mg:Str->Option Value) (base:Heap) (CX:CXT) (k:Nat) (f:Addr) (fd:FuncData) (ps:List Str) (sp:Sp):Prop where
 len:∀ vs H Q E,sp vs H Q E->vs.length=ps.length
 run:∀ (A:Around) (outer:List Env) (s:Shared) (H:Hp) (args:Args) (us:List Value) (vs:List V) (Q:VK) (E:XK),Room k A->Env0 P w K mg base A outer s H->BindsTo s fd args (ps.zip us)->Vals vs us->sp vs H Q E ->
   codeAny (model P w) A (.call (.ref f) args) (CR CX outer P w H s Q E) s
theorem FnOk.imp {P:Program} {w:World} {K:PySem.W.Frag} {mg:Str->Option Value} {base:Heap} {CX:CXT} {k:Nat} {f:Addr} {fd:FuncData} {ps:List Str} {sp sp':Sp} (F:FnOk P w K mg base CX k f fd ps sp)
   (h:∀ vs H Q E,sp' vs H Q E->sp vs H Q E):FnOk P w K mg base CX k f fd ps sp':=
 ⟨fun vs H Q E q=>F.len vs H Q E (h _ _ _ _ q),fun A outer s H args us vs Q E hr he hb hv hs=>F.run A outer s H args us vs Q E hr he hb hv (h _ _ _ _ hs)⟩
section
variable {X:Cx} {pins:List (Addr × Obj)} {σ:St} {H:Hp} {s s':Shared}
theorem Inv.env0 (I:Inv X pins σ H s):Env0 X.prog X.w X.K X.mg X.base X.A X.stack s H:=
 ⟨I.ok.frames,I.ok.mod,I.bs,Z24 I.ok.bsz I.sz,I.stack,I.stkFree,I.hok,I.bare⟩
theorem Inv.after {Q:VK} {u:Value} (I:Inv X pins σ H s) (h:CE X.stack X.prog X.w H s Q u s'):EP X pins σ Q u s':=by
 obtain ⟨v,H',os,bare,un,hok,r,q⟩:=h
 obtain ⟨hh,g,d,t,os'⟩:=s'
 obtain rfl:os'=s.os:=os
 exact ⟨v,H',I.call (h':=hh) (g':=g) (d':=d) (t':=t) (ch:=[]) un hok bare (fun b z=>absurd z (by simp)),r,q⟩
end
noncomputable def gJ (sp:Sp) (dvs:List V) (E:XK) (t:TA):TE:=fun σ H Q=>t σ H fun vs H1=>sp (vs++dvs) H1 Q E
noncomputable def Binds (K:PySem.W.Frag) (fd:FuncData) (ps:List Str) (ds:List Value):Prop:=
 ∀ (s:Shared) (us:List Value),K.In s.heap->(us++ds).length=ps.length->BindsTo s fd ⟨us,[]⟩ (ps.zip (us++ds))
theorem Binds.all {K:PySem.W.Frag} {fd:FuncData} {ps:List Str} (h:∀ us:List Value,us.length=ps.length->bindArgs fd ⟨us,[]⟩=pure (ps.zip us)):Binds K fd ps []:=fun s us _ hl=>by
 rw [Z35] at hl ⊢
 exact .of_eq (h us hl)
noncomputable def nU (CX:CXT) (X:Cx) (E:XK):Prop:=∀ (pins:List (Addr × Obj)) (σ:St) (H:Hp) (s:Shared) (e:Value) (s':Shared),Inv X pins σ H s->CX X.stack H s E e s'->X.xe e s'
section
variable {X:Cx} {CX:CXT} {k:Nat} {f C:Addr} {fd:FuncData} {ps:List Str} {sp:Sp} {dvs:List V} {ds:List Value} {E:XK} {x m:Str} {p pos apos:Pos} {e o:Expr} {es:List Expr} {ta:TE} {t:TA}
theorem An {pins:List (Addr × Obj)} {σ:St} {H:Hp} {s:Shared} {Q:VK} {us:List Value} {vs:List V} (F:FnOk X.prog X.w X.K X.mg X.base CX k f fd ps sp) (hr:Room k X.A) (hb:Binds X.K fd ps ds) (hd:Vals dvs ds) (hx:nU CX X E)
   (I:Inv X pins σ H s) (r:Vals vs us) (h:sp (vs++dvs) H Q E):wpAny (model X.prog X.w) X.A (call (.ref f) us) (EP X pins σ Q) X.xe s:=by
 have r2:Vals (vs++dvs) (us++ds):=r.append hd
 have hl:(us++ds).length=ps.length:=by rw [<- r2.length]; exact F.len _ _ _ _ h
 refine wpAny_call (codeAny_mono (F.run X.A X.stack s H ⟨us,[]⟩ (us++ds) (vs++dvs) Q E hr I.env0 (hb s us I.kIn hl) r2 h) fun r s' hq=>?_)
 cases r with
 | error e=>exact hx pins σ H s e s' I hq
 | ok fl=>
   cases fl with
   | ret u=>exact I.after hq
   | next=>exact False.elim hq
   | brk=>exact False.elim hq
   | cont=>exact False.elim hq
theorem vU (F:FnOk X.prog X.w X.K X.mg X.base CX k f fd ps sp) (hr:Room k X.A) (hg:Gl X x) (hm:X.mg x=some (.ref f)) (hk:PySem.W.keepIn X.K (.ref f)=true) (hb:Binds X.K fd ps ds) (hd:Vals dvs ds) (hx:nU CX X E)
   (ha:PA X (e::es) t) (hdb:(x == ("__debug__":Str))=false:=by decide) (he:starEach (e::es) X.env=(false,eval e X.env)::starEach es X.env:=by rfl) (hpl:(backTo pos (starEach es X.env)).any (·.1)=false:=by rfl) :
   PE X (.Call (.Name x p) (e::es) [] pos) (gJ sp dvs E t):=by
 intro pins s σ H Q I h
 refine wpAny_Call_Name_kw (pj I hg hm ?_ hdb)
 refine PySem.W.callWith_K (h₀:=X.base) I.ok.mod.kin hk (thn (ha pos pins s σ H _ I h) fun us s1 ⟨vs,H1,I1,r,q⟩=>⟨I1.kIn,?_⟩) he hpl
 exact An F hr hb hd hx I1 r q
end
structure FnScope (N P:List Str) (sc:Scope):Prop where
 kind:sc.kind=.function
 co:sc.isCoroutine=false
 gen:sc.isGenerator=false
 nd:N.Nodup
 pre:N.take P.length=P
 par:∀ x ∈ P,sc.names.lookup x=some .local∨sc.names.lookup x=some .cell
 nofree:∀ y ∈ sc.names,y.2 ≠ .free
theorem jB {kindOf:Str->Option NameKind} {x:Str}:∀ {binds:List (Str × Value)} {m:Str->Option Value},(∀ v,(x,v) ∉ binds)->bindL kindOf binds m x=m x
 | [],_,_=>rfl
 | (n,v)::r,m,h=>by
   unfold bindL
   rw [jB fun w hw=>h w (Z8 _ hw)]
   split
   · have:x ≠ n:=by rintro rfl; exact h v Z16
     simp [this]
   · rfl
theorem jC {kindOf:Str->Option NameKind} {x:Str}:∀ {binds:List (Str × Value)} {m:Str->Option Value},(∀ v,(x,v) ∉ binds)->bindC kindOf binds m x=m x
 | [],_,_=>rfl
 | (n,v)::r,m,h=>by
   unfold bindC
   rw [jC fun w hw=>h w (Z8 _ hw)]
   split
   · rfl
   · have:x ≠ n:=by rintro rfl; exact h v Z16
     simp [this]
theorem jD {kindOf:Str->Option NameKind} {x:Str} {v:Value}:∀ {P:List Str} {vs:List Value} {i:Nat} {m:Str->Option Value},P.Nodup->P[i]?=some x->vs[i]?=some v->kindOf x=some .local ->
   bindL kindOf (P.zip vs) m x=some v
 | [],_,_,_,_,h,_,_=>by simp at h
 | _::_,[],_,_,_,_,h,_=>by simp at h
 | p::P,w::vs,0,m,nd,h1,h2,hk=>by
   simp at h1 h2; subst h1; subst h2
   show bindL kindOf ((p,w)::P.zip vs) m p=_
   unfold bindL
   rw [jB fun v hv=>(List.nodup_cons.mp nd).1 (List.of_mem_zip hv).1,if_pos hk]
   simp
 | p::P,w::vs,i+1,m,nd,h1,h2,hk=>by
   show bindL kindOf ((p,w)::P.zip vs) m x=_
   unfold bindL
   exact jD (i:=i) (List.nodup_cons.mp nd).2 (by simpa using h1) (by simpa using h2) hk
theorem jE {kindOf:Str->Option NameKind} {x:Str} {v:Value}:∀ {P:List Str} {vs:List Value} {i:Nat} {m:Str->Option Value},P.Nodup->P[i]?=some x->vs[i]?=some v->kindOf x ≠ some .local ->
   bindC kindOf (P.zip vs) m x=some v
 | [],_,_,_,_,h,_,_=>by simp at h
 | _::_,[],_,_,_,_,h,_=>by simp at h
 | p::P,w::vs,0,m,nd,h1,h2,hk=>by
   simp at h1 h2; subst h1; subst h2
   show bindC kindOf ((p,w)::P.zip vs) m p=_
   unfold bindC
   rw [jC fun v hv=>(List.nodup_cons.mp nd).1 (List.of_mem_zip hv).1,if_neg hk]
   simp
 | p::P,w::vs,i+1,m,nd,h1,h2,hk=>by
   show bindC kindOf ((p,w)::P.zip vs) m x=_
   unfold bindC
   exact jE (i:=i) (List.nodup_cons.mp nd).2 (by simpa using h1) (by simpa using h2) hk
noncomputable def start (N:List Str) (vs:List V):St:=vs.map some++List.replicate (N.length - vs.length) none
noncomputable def iq (CX:CXT) (P:Program) (w:World) (K:PySem.W.Frag) (mg:Str->Option Value) (base:Heap) (N:List Str) (qual:Str) (scope:Scope) (f:Addr) (cd:Value) (A:Around) (outer:List Env) (s:Shared) (H:Hp) (E:XK):Cx where
 prog:=P
 w:=w
 K:=K
 mg:=mg
 base:=base
 A:=A.deeper (envOfC qual scope s.heap.objs.size f cd)
 N:=N
 s₀:=s
 H₀:=H
 env:=envOfC qual scope s.heap.objs.size f cd
 outer:=outer
 stack:=envOfC qual scope s.heap.objs.size f cd::outer
 ex:=[]
 calm:=true
 fn:=fun _=>true
 pn:=[]
 xe:=fun e s'=>wpAny (model P w) (A.deeper (envOfC qual scope s.heap.objs.size f cd)) (leaving (envOfC qual scope s.heap.objs.size f cd) e) (fun _ s''=>CX outer H s E e s'') (fun e' s''=>CX outer H s E e' s'') s'
theorem me {sc:Scope} {n:Nat} {x:Str} (h:sc.names.lookup x=some .cell):∃ c,(cellsFrom n sc.names []).lookup x=some c:=by
 have q:=PySem.W.cellsFrom_some sc.names n [] (.inl h)
 exact Option.isSome_iff_exists.mp q
theorem qA {CX:CXT} {P:Program} {w:World} {K:PySem.W.Frag} {mg:Str->Option Value} {base:Heap} {N ps:List Str} {qual:Str} {scope:Scope} {f:Addr} {cd:Value} {A:Around} {outer:List Env} {s s1:Shared} {H:Hp} {E:XK} {us:List Value} {vs:List V}
   (S:FnScope N ps scope) (hd:A.handled=none) (e0:Env0 P w K mg base A outer s H) (hl:vs.length=ps.length) (r:Vals vs us)
   (x:InCallC s s.heap.objs.size (bindL (envOfC qual scope s.heap.objs.size f cd).kindOf (ps.zip us) fun _=>none) (cellsFrom (s.heap.objs.size+1) scope.names []) (bindC (envOfC qual scope s.heap.objs.size f cd).kindOf (ps.zip us) fun _=>none) s1) :
   Inv (iq CX P w K mg base N qual scope f cd A outer s H E) [] (start N vs) H s1:=by
 have hpl:ps.length<=N.length:=by have:=congrArg List.length S.pre; rw [List.length_take] at this; omega
 obtain ⟨h1,tk,rfl,hk⟩:=x.done
 have noA:∀ b:Addr,b ∉ (iq CX P w K mg base N qual scope f cd A outer s H E).ex:=fun b z=>absurd (show b ∈ ([]:List Addr) from z) (by simp)
 refine ⟨⟨e0.mod,S.kind,rfl,rfl,Z10 _,fun y z c h1 h2=>?_,fun y hy=>?_,fun y c _ h=>?_,fun _=>hd,Around.frames_deeper e0.frames,.inr ⟨rfl,rfl⟩,fun b z=>absurd z (noA b),e0.bs,e0.bsz,fun b _ _=>noA b,fun b z=>absurd z (noA b),e0.funs,e0.frf⟩,
   rfl,e0.bare,Un.kept hk,⟨_,x.toInCall.ns,fun i y v h1 h2 h3=>?_⟩,fun y c h=>⟨_,x.cell y c h⟩,e0.hok.fresh (Z10 _),fun y c h=>?_,fun p hp=>absurd (show p ∈ ([]:List (Addr × Obj)) from hp) (by simp),e0.hok.kept hk,?_⟩
 · exact name_of_addr x.apart (PySem.mem_of_lookup h1) (PySem.mem_of_lookup h2)
 · have hy:scope.names.lookup y=some .cell∨scope.names.lookup y=some .free:=hy
   rcases hy with hy | hy
   · exact me hy
   · exact absurd rfl (S.nofree _ (PySem.mem_of_lookup hy))
 · exact Z38 (x.above y c (PySem.mem_of_lookup h))
 · have hi:i < vs.length:=by
     unfold start at h2
     by_cases hi:i < vs.length
     · exact hi
     · rw [List.getElem?_append_right (by simpa using hi)] at h2
       rw [List.getElem?_replicate] at h2
       split at h2 <;> cases h2
   have ha:vs[i]?=some v:=by
     unfold start at h2
     rw [List.getElem?_append_left (by simpa using hi),Z21] at h2
     cases e:vs[i]? with
     | none=>rw [e] at h2; cases h2
     | some a=>rw [e] at h2; cases h2; rfl
   obtain ⟨u,hu,rv⟩:=r.get ha
   have hp:ps[i]?=some y:=by
     rw [<- S.pre,List.getElem?_take_of_lt (by omega)]; exact h1
   have ndP:ps.Nodup:=by rw [<- S.pre]; exact S.nd.sublist (List.take_sublist _ _)
   refine ⟨u,rv,?_⟩
   rcases S.par y (List.mem_of_getElem? hp) with k | k
   · exact .inl ⟨k,jD ndP hp hu k⟩
   · obtain ⟨c,e⟩:=me (n:=s.heap.objs.size+1) k
     refine .inr ⟨.inl k,c,e,?_⟩
     have q:=x.cell y c e
     rw [jE ndP hp hu (by show scope.names.lookup y ≠ _; rw [k]; decide)] at q
     exact q
 · exact e0.hok.fresh (Z38 (x.above y c (PySem.mem_of_lookup h)))
 · unfold start
   show _=N.length
   rw [Z17,Z2,List.length_replicate]
   omega
theorem CB {CX:CXT} {P:Program} {w:World} {K:PySem.W.Frag} {mg:Str->Option Value} {base:Heap} {k:Nat} {f:Addr} {name qual:Str} {params:Arguments} {body:List Stmt} {scope:Scope} {dV kV doc pm cdv ct oc:Value} {an od:Option Addr}
   {osl:Array (Option Value)} {N ps:List Str} {sp:Sp} (lk:K.lookup f=some ⟨oc,od,.func (PySem.W.fnOf name qual params body scope dV kV doc pm an cdv ct),osl⟩) (hcd:PySem.W.codeIn K cdv qual=true) (S:FnScope N ps scope)
   (len:∀ vs H Q E,sp vs H Q E->vs.length=ps.length)
   (hbody:∀ (A:Around) (outer:List Env) (s:Shared) (H:Hp) (vs:List V) (Q:VK) (E:XK),Room k (A.deeper (envOfC qual scope s.heap.objs.size f cdv))->sp vs H Q E ->
     ∃ t,PSs (iq CX P w K mg base N qual scope f cdv A outer s H E) body t/\t { nx:=fun _ H'=>Q .non H',rt:=Q } (start N vs) H) :
   FnOk P w K mg base CX (k+1) f (PySem.W.fnOf name qual params body scope dV kV doc pm an cdv ct) ps sp:=by
 refine ⟨len,fun A outer s H args us vs Q E hr e0 hb r hsp=>?_⟩
 have hl:=len _ _ _ _ hsp
 have KX:K.In s.heap:=e0.mod.kin.keeps fun b o e=>(e0.bs b o e).1
 have lim:s.heap.NoLimit:=e0.mod.nolimit.keeps fun b o e=>(e0.bs b o e).1
 have hkind:∀ y ∈ ps.zip us,scope.names.lookup y.1=some .local∨(scope.names.lookup y.1=some .cell/\((cellsFrom (s.heap.objs.size+1) scope.names []).lookup y.1).isSome=true):=fun ⟨n,v⟩ hy=>by
   rcases S.par n (List.of_mem_zip hy).1 with q | q
   · exact .inl q
   · exact .inr ⟨q,PySem.W.cellsFrom_some _ _ _ (.inl q)⟩
 refine codeAny_call_function hr.depth (KX _ _ lk) rfl S.co S.gen rfl (PySem.W.codeRec_of KX hcd) (hb _ _ _ _ ?_)
 refine wpAny_newFunctionEnv_cells S.kind hkind fun env he s1 x=>?_
 subst he
 refine ⟨lim.keeps x.toInCall.keep,codeAny_func ?_⟩
 obtain ⟨t,ht,hq⟩:=hbody A outer s H vs Q E (hr.deeper _) hsp
 have I:Inv (iq CX P w K mg base N qual scope f cdv A outer s H E) [] (start N vs) H s1:=qA S hr.hd e0 hl r x
 refine wpAny_mono (ht [] s1 (start N vs) H _ I hq) (fun fl s' hs=>?_) fun e s' hs=>hs
 have fin:∀ {σ':St} {H':Hp} {v:V} {u:Value},Inv (iq CX P w K mg base N qual scope f cdv A outer s H E) [] σ' H' s'->RelV v u->Q v H'->CE outer P w H s Q u s':=
   fun {σ' H' v u} J rv q=>⟨v,H',J.os,J.bare,J.base,J.hok,rv,q⟩
 cases fl with
 | ret u=>
   obtain ⟨v,σ',H',J,rv,q⟩:=hs
   exact fin J rv q
 | next=>
   obtain ⟨σ',H',J,q⟩:=hs
   exact fin (v:=V.non) (u:=Value.none) J rfl q
 | brk=>
   obtain ⟨_,_,_,q⟩:=hs
   exact False.elim q
 | cont=>
   obtain ⟨_,_,_,q⟩:=hs
   exact False.elim q
section
variable {X:Cx} {x:Str} {p pos:Pos} {e:Expr} {es:List Expr} {t:TA} {id T:String} {r:List V->Hp->VK->Prop}
noncomputable def tCB (r:List V->Hp->VK->Prop) (t:TA):TE:=fun σ H Q=>t σ H fun vs H1=>r vs H1 Q
theorem bb (hc:CallR X (.builtin id) r) (hg:Gl X x) (hm:X.mg x=none) (hv:bootBuiltins x=some (.builtin id)) (ha:PA X (e::es) t) (hn:x ≠ "__name__":=by decide) (hdb:(x == ("__debug__":Str))=false:=by decide)
   (he:starEach (e::es) X.env=(false,eval e X.env)::starEach es X.env:=by rfl) (hpl:(backTo pos (starEach es X.env)).any (·.1)=false:=by rfl):PE X (.Call (.Name x p) (e::es) [] pos) (tCB r t):=by
 intro pins s σ H Q I h
 refine wpAny_Call_Name_kw (fU I hg hm hv ?_ hn hdb)
 exact PyProof.Rows.callWith_builtin1 (thn (ha pos pins s σ H _ I h) fun us s1 ⟨vs,H1,I1,r1,q1⟩=>hc pins s1 σ H1 vs us Q I1 r1 q1) he hpl
theorem fX (hc:CallR X (.type T) r) (hg:Gl X x) (hm:X.mg x=none) (hv:bootBuiltins x=some (.type T)) (ha:PA X (e::es) t) (hn:x ≠ "__name__":=by decide) (hdb:(x == ("__debug__":Str))=false:=by decide)
   (he:starEach (e::es) X.env=(false,eval e X.env)::starEach es X.env:=by rfl) (hpl:(backTo pos (starEach es X.env)).any (·.1)=false:=by rfl):PE X (.Call (.Name x p) (e::es) [] pos) (tCB r t):=by
 intro pins s σ H Q I h
 refine wpAny_Call_Name_kw (fU I hg hm hv ?_ hn hdb)
 exact PyProof.Rows.callWith_type1 (thn (ha pos pins s σ H _ I h) fun us s1 ⟨vs,H1,I1,r1,q1⟩=>hc pins s1 σ H1 vs us Q I1 r1 q1) he hpl
end
end L2
namespace HT
open PySem PyProof.Rows
noncomputable def aH:List Int->List Int->Bool
 | [],[]=>false
 | [],_::_=>true
 | _::_,[]=>false
 | x::xs,y::ys=>if x=y then aH xs ys else decide (x < y)
theorem aP (x y:Int) (xs ys:List Int):aH (x::xs) (y::ys)=if x=y then aH xs ys else decide (x < y):=rfl
theorem cn:aH [] []=false:=rfl
theorem di (y:Int) (ys:List Int):aH [] (y::ys)=true:=rfl
theorem bn (x:Int) (xs:List Int):aH (x::xs) []=false:=rfl
theorem sH (A:Around) (s:Shared) (a:Int) (t:Tok) (c:Int) (u:Tok):∃ e,SeqAt.EqAt A s (.int a t) (.int c u) e/\(e=true ↔ a=c):=
 ⟨(a == c),SeqAt.EqAt.int_int a t c u,by simp⟩
theorem sI (A:Around) (s:Shared) (a:Int) (t:Tok) (c:Int) (u:Tok) (prog:Program) (w:World) (E:Value->Shared->Prop) (Q:Value->Shared->Prop) (h:Q (.bool (decide (a < c))) s) :
   wpAny (model prog w) A (richCompare .Lt (.int a t) (.int c u)) Q E s:=
 (PyProof.Rows.lt_int h:wpAny (model prog w) A (compareOp .Lt (.int a t) (.int c u)) Q E s)
section
variable {prog:Program} {w:World} {A:Around} {E:Value->Shared->Prop} {s:Shared}
theorem vV {t b:Addr} {vs ws:List Value} {Q:Value->Shared->Prop} (ht:IsTup s.heap t vs.toArray) (hb:IsTup s.heap b ws.toArray) (hv:vs ≠ [])
   (h1:ws=[]->Q (.ref t) s) (h2:ws ≠ []->Q (.ref s.heap.objs.size) { s with heap:=s.heap.push { cls:=.type "tuple",data:=.seq (vs++ws).toArray } })
   (hsz:vs.length+ws.length<=sizeLine):wpAny (model prog w) A (binaryOp .Add (.ref t) (.ref b)) Q E s:=by
 obtain ⟨⟨cls,dd,data,sl⟩,ho,hc,n,hd⟩:=id ht
 obtain ⟨⟨cls2,dd2,data2,sl2⟩,ho2,hc2,n2,hd2⟩:=id hb
 simp only at hc hd hc2 hd2
 subst hc hd hc2 hd2
 have e:vs.toArray++ws.toArray=(vs++ws).toArray:=by simp
 by_cases hw:ws=[]
 · exact concat_meets ⟨_,ho,rfl⟩ ⟨_,ho2,rfl⟩ noFill_tuple_add seq_tuple_add PySem.F.slot_tuple_add PySem.F.entry_tuple_add (PySem.F.args_tuple_add_2 _ _)
     (tuple_addW1 t b vs.toArray ws.toArray n n2 dd dd2 sl sl2 (by simpa using hv) (by simp [hw])) ⟨ho,ho2,h1 hw⟩
 · refine concat_meets ⟨_,ho,rfl⟩ ⟨_,ho2,rfl⟩ noFill_tuple_add seq_tuple_add PySem.F.slot_tuple_add PySem.F.entry_tuple_add (PySem.F.args_tuple_add_2 _ _)
     (tuple_addW2 t b vs.toArray ws.toArray n n2 dd dd2 sl sl2 (by simpa using hv) (by simpa using hw) (by rw [Z4,Z4]; exact hsz)) ⟨ho,ho2,?_⟩
   rw [e]
   exact h2 hw
noncomputable def sIx (n d:Nat):Option Int->Nat
 | none=>d
 | some v=>if v < 0 then (v+(n:Int)).toNat else min v.toNat n
theorem Ao (n d:Nat) (hd:d<=n) (o:Option Int):sIx n d o<=n:=by
 cases o with
 | none=>exact hd
 | some v=>
   show (if v < 0 then (v+(n:Int)).toNat else min v.toNat n)<=n
   by_cases hv:v < 0
   · rw [if_pos hv]; omega
   · rw [if_neg hv]; exact Nat.min_le_right _ _
theorem pA (v:Int) (n d:Nat):(if v < 0 then max (v+(n:Int)) 0 else min v (n:Int))=((sIx n d (some v):Nat):Int):=by
 show (if v < 0 then max (v+(n:Int)) 0 else min v (n:Int))=(((if v < 0 then (v+(n:Int)).toNat else min v.toNat n):Nat):Int)
 by_cases hv:v < 0
 · simp only [if_pos hv]; omega
 · simp only [if_neg hv]; omega
theorem nV (lo hi:Option Int) (n:Nat):Builtin.Slice.sliceAdjust lo hi 1 (n:Int)=(((sIx n 0 lo:Nat):Int),((sIx n n hi:Nat):Int)):=by
 have h1:¬ ((1:Int) < 0):=by omega
 unfold Builtin.Slice.sliceAdjust
 simp only [h1,if_false]
 refine Prod.ext ?_ ?_
 · cases lo with
   | none=>rfl
   | some v=>exact pA v n 0
 · cases hi with
   | none=>rfl
   | some v=>exact pA v n n
theorem nW (i j:Nat):Builtin.Slice.slicePlaces (i:Int) (j:Int) 1=j - i:=by
 unfold Builtin.Slice.slicePlaces
 have h1:(1:Int) > 0:=by omega
 simp only [h1,if_true,Int.ediv_one]
 split <;> omega
theorem ir {v:Value} {o:Option Int} {Q:Option Int->Shared->Prop} (p:IsPart v o) (h:Q o s):wpAny (model prog w) A (Builtin.Slice.slicePartIndex v) Q E s:=by
 cases p with
 | none=>exact slicePart_none h
 | int i t=>exact slicePart_int h
theorem cz {sl:Addr} {vl vu:Value} {lo hi:Option Int} {n:Nat} {Q:Int × Int × Nat->Shared->Prop} (hs:s.heap.IsSliceOf sl vl vu .none) (pl:IsPart vl lo) (pu:IsPart vu hi)
   (h:Q (((sIx n 0 lo:Nat):Int),1,sIx n n hi - sIx n 0 lo) s):wpAny (model prog w) A (Builtin.Slice.sliceApplied (.ref sl) (pure (n:Int))) Q E s:=by
 obtain ⟨os,hos,hcs,hds⟩:=id hs
 unfold Builtin.Slice.sliceApplied Builtin.Slice.sliceFields
 refine Z55 (Z55 (wpAny_field hos hds (x:=vl) rfl (Z55 (wpAny_field hos hds (x:=vu) rfl (Z55 (wpAny_field hos hds (x:=.none) rfl (Z56 ?_)))))))
 refine Z55 (slicePart_none ?_)
 show wpAny _ _ (if ((1:Int) == 0)=true then _ else _) _ _ s
 rw [if_neg (by decide)]
 refine Z55 (ir pl (Z55 (ir pu (Z55 (Z56 ?_)))))
 show wpAny _ _ (match Builtin.Slice.sliceAdjust lo hi 1 (n:Int) with | (lo,hi)=>pure (lo,(1:Int),Builtin.Slice.slicePlaces lo hi 1)) _ _ s
 rw [nV lo hi n]
 show wpAny _ _ (pure (((sIx n 0 lo:Nat):Int),(1:Int),Builtin.Slice.slicePlaces ((sIx n 0 lo:Nat):Int) ((sIx n n hi:Nat):Int) 1)) _ _ s
 rw [nW]
 exact Z56 h
theorem sJ (xs:Array Value) (i k:Nat):((List.range k).filterMap fun (m:Nat)=>xs[((i:Int)+(m:Int) * 1).toNat]?).toArray=((xs.toList.drop i).take k).toArray:=by
 have e:(fun (m:Nat)=>xs[((i:Int)+(m:Int) * 1).toNat]?)=fun m=>xs[i+m]?:=by
   funext m
   have:((i:Int)+(m:Int) * 1).toNat=i+m:=by omega
   rw [this]
 rw [e]
 have:=pick_run xs i k
 rw [List.filterMap_map] at this
 have e2:((fun x=>xs[x]?) ∘ fun x=>i+x)=fun m=>xs[i+m]?:=rfl
 rw [e2] at this
 rw [this]
theorem fz {t sl:Addr} {items:Array Value} {vl vu:Value} {lo hi:Option Int} {Q:Value->Shared->Prop} (ht:IsTup s.heap t items) (hs:s.heap.IsSliceOf sl vl vu .none) (pl:IsPart vl lo) (pu:IsPart vu hi)
   (hw:¬ (sIx items.size 0 lo=0/\sIx items.size items.size hi=items.size))
   (h:Q (.ref s.heap.objs.size) { s with heap:=s.heap.push { cls:=.type "tuple",data:=.seq ((items.toList.drop (sIx items.size 0 lo)).take (sIx items.size items.size hi - sIx items.size 0 lo)).toArray } })
   (hsz:items.size<=sizeLine):wpAny (model prog w) A (getItem (.ref t) (.ref sl)) Q E s:=by
 have htake:sizeOk (.seq ((items.toList.drop (sIx items.size 0 lo)).take (sIx items.size items.size hi - sIx items.size 0 lo)).toArray):=by
   show ((items.toList.drop (sIx items.size 0 lo)).take (sIx items.size items.size hi - sIx items.size 0 lo)).toArray.size<=sizeLine
   rw [Z4,List.length_take,List.length_drop,Array.length_toList]
   omega
 have hj:sIx items.size items.size hi<=items.size:=Ao _ _ (Z10 _) hi
 obtain ⟨os,hos,hcs,hds⟩:=id hs
 have hTs:s.TypeIs (.ref sl) "slice":=⟨os,hos,hcs⟩
 unfold getItem
 try with_reducible refine wpAny_holding ?_
 first | refine Z55 (Z56 ?_) | skip
 refine Z55 (wpAny_sequenceKey ht.typeIs (by decide) ?_)
 refine Z55 (wpAny_callSpecial?_slot (name:=Str.ofString "__getitem__") ht.typeIs PyProof.Rows.slot_tuple_getitem
   (wpAny_call_entry PyProof.Rows.slot_tuple_getitem ht.typeIs entry_tuple_getitem ?_ (args_tuple_getitem _ _)))
 show wpAny _ _ (Builtin.Tuple.tupleItemsOf (.ref t) >>= _) _ _ s
 refine Z55 (tupleItemsOf_ ht ?_)
 refine Z55 (wpAny_typeOf hTs ?_)
 rw [if_pos (by decide)]
 refine Z55 (cz hs pl pu ?_)
 have hno:¬ ((((sIx items.size 0 lo:Nat):Int) == 0 && (1:Int) == 1 && (sIx items.size items.size hi - sIx items.size 0 lo) == items.size)=true):=by
   intro q
   rw [Z25,Z25] at q
   have q1:((sIx items.size 0 lo:Nat):Int)=0:=eq_of_beq q.1.1
   have q2:sIx items.size items.size hi - sIx items.size 0 lo=items.size:=eq_of_beq q.2
   exact hw ⟨by omega,by omega⟩
 show wpAny _ _ (if (((sIx items.size 0 lo:Nat):Int) == 0 && (1:Int) == 1 && (sIx items.size items.size hi - sIx items.size 0 lo) == items.size)=true then _ else _) _ _ s
 rw [if_neg hno,sJ]
 first
   | exact Z55 (m:=Builtin.Tuple.tupleExact _) (wpAny_newObj_type (Z56 ⟨_,rfl,Z56 h⟩) htake)
   | exact Z55 (m:=Builtin.Tuple.tupleExact _) (wpAny_newObj_type (Z55 (Z56 (Z56 ⟨_,rfl,Z56 h⟩))) htake)
   | exact Z55 (Z55 (m:=Builtin.Tuple.tupleExact _) (wpAny_newObj_type (Z56 (Z56 ⟨_,rfl,Z56 h⟩)) htake))
   | exact Z55 (Z55 (m:=Builtin.Tuple.tupleExact _) (wpAny_newObj_type (Z56 ⟨_,rfl,Z56 h⟩) htake))
end
end HT
namespace L2
open PySem PySem.Spec PyProof.Rows
noncomputable abbrev TO:=St->Hp->(Option Int->Hp->Prop)->Prop
noncomputable def PO (X:Cx) (e:Option Expr) (t:TO):Prop:=
 ∀ (pins:List (Addr × Obj)) (s:Shared) (σ:St) (H:Hp) (Q:Option Int->Hp->Prop),Inv X pins σ H s->t σ H Q ->
   wpAny (model X.prog X.w) X.A (evalPart e X.env) (fun u s'=>∃ o H',Inv X pins σ H' s'/\IsPart u o/\Q o H') X.xe s
noncomputable def pB:TO:=fun _ H Q=>Q none H
noncomputable def yU (t:TE):TO:=fun σ H Q=>t σ H fun x H1=>∃ i,x=.int i/\Q (some i) H1
theorem iu {ns:List Int}:∀ {us:List Value},Vals (ns.map V.int) us->IntsAre us ns:=by
 induction ns with
 | nil=>intro us r; rw [List.map_nil] at r; cases r; exact .nil
 | cons n ns ih=>
   intro us r
   rw [Z6] at r
   cases r with
   | cons r1 r2=>
     obtain ⟨t,e⟩:=r1
     subst e
     exact .cons n t (ih r2)
section
variable {X:Cx} {e:Expr} {te:TE} {lo hi:Option Expr} {tl th:TO} {pos p2:Pos}
theorem vW:PO X none pB:=by
 intro pins s σ H Q I h
 rw [evalPart_none]
 exact Z56 ⟨none,H,I,.none,h⟩
theorem vX (h:PE X e te):PO X (some e) (yU te):=by
 intro pins s σ H Q I hw
 rw [evalPart_some]
 refine thn (h pins s σ H _ I hw) fun u s1 ⟨x,H1,I1,r1,q1⟩=>?_
 obtain ⟨i,rfl,q⟩:=q1
 obtain ⟨t,rfl⟩:=r1
 exact ⟨some i,H1,I1,.int i t,q⟩
noncomputable def SlR (X:Cx) (r:V->Option Int->Option Int->Hp->VK->Prop):Prop:=
 ∀ (pins:List (Addr × Obj)) (s:Shared) (σ:St) (H:Hp) (x:V) (v vl vu:Value) (lo hi:Option Int) (sl:Addr) (Q:VK),Inv X pins σ H s->RelV x v->s.heap.IsSliceOf sl vl vu .none->IsPart vl lo->IsPart vu hi->r x lo hi H Q ->
   ∃ T id,typeLookup (.type T) "__getitem__"=pure (some (.builtin id))/\s.TypeIs v T/\wpAny (model X.prog X.w) X.A (getItem v (.ref sl)) (EP X pins σ Q) X.xe s
theorem SlR.or {r r':V->Option Int->Option Int->Hp->VK->Prop} (h:SlR X r) (h':SlR X r'):SlR X (fun x lo hi H Q=>r x lo hi H Q∨r' x lo hi H Q):=by
 intro pins s σ H x v vl vu lo hi sl Q I rx hs pl pu q
 rcases q with q | q
 · exact h pins s σ H x v vl vu lo hi sl Q I rx hs pl pu q
 · exact h' pins s σ H x v vl vu lo hi sl Q I rx hs pl pu q
noncomputable def tSl (r:V->Option Int->Option Int->Hp->VK->Prop) (te:TE) (tl th:TO):TE:=fun σ H Q=>te σ H fun x H1=>tl σ H1 fun l H2=>th σ H2 fun u H3=>r x l u H3 Q
theorem mf {r:V->Option Int->Option Int->Hp->VK->Prop} (hr:SlR X r) (he:PE X e te) (hl:PO X lo tl) (hu:PO X hi th):PE X (.Subscript e (.Slice lo hi none p2) pos) (tSl r te tl th):=by
 intro pins s σ H Q I h
 refine Subscript_ (thn (he pins s σ H _ I h) fun v s1 ⟨x,H1,I1,r1,q1⟩=>?_)
 refine wpAny_Slice (thn (hl pins s1 σ H1 _ I1 q1) fun vl s2 ⟨l,H2,I2,pl,q2⟩=>thn (hu pins s2 σ H2 _ I2 q2) fun vu s3 ⟨u,H3,I3,pu,q3⟩=>?_)
 rw [evalPart_none]
 refine Z56 ?_
 have I4:Inv X pins σ H3 { s3 with heap:=s3.heap.push { cls:=.type "slice",data:=.fields #[vl,vu,.none] } }:=I3.kept (t':=s3.toks) fun b ob q=>Z7 _ q
 obtain ⟨T,id,hT,ht,hg⟩:=hr pins { s3 with heap:=s3.heap.push { cls:=.type "slice",data:=.fields #[vl,vu,.none] } } σ H3 x v vl vu l u s3.heap.objs.size Q I4 r1 (Heap.IsSliceOf.new ..) pl pu q3
 show wpAny (model X.prog X.w) X.A (subscriptTail e (.Slice lo hi none p2) v (.ref s3.heap.objs.size)) (EP X pins σ Q) X.xe { s3 with heap:=s3.heap.push { cls:=.type "slice",data:=.fields #[vl,vu,.none] } }
 exact tail_any (ops:=[.ref s3.heap.objs.size,v]) ht hT hg (by with_unfolding_all rfl)
noncomputable def jj (xs:List V) (lo hi:Option Int):List V:=(xs.drop (HT.sIx xs.length 0 lo)).take (HT.sIx xs.length xs.length hi - HT.sIx xs.length 0 lo)
theorem gK (xs:List V) (lo hi:Option Int):(jj xs lo hi).length<=xs.length:=by
 unfold jj
 rw [List.length_take,List.length_drop]
 omega
noncomputable def CC (K:PySem.W.Frag):V->Option Int->Option Int->Hp->VK->Prop:=fun x lo hi H Q=>∃ a xs,x=.ref a/\SqT K H a xs /\
 ¬ (HT.sIx xs.length 0 lo=0/\HT.sIx xs.length xs.length hi=xs.length)/\∀ p,H p=none->Q (.ref p) (upd H p (.tup (jj xs lo hi)))
theorem Ap:SlR X (CC X.K):=by
 intro pins s σ H x v vl vu lo hi sl Q I rx hs pl pu h
 obtain ⟨a,xs,rfl,hx,hw,q⟩:=h
 cases rx
 obtain ⟨its,r,ht,hz⟩:=I.tuple hx
 have hlen:its.toArray.size=xs.length:=by rw [Z4]; exact r.length.symm
 refine ⟨"tuple",_,PyProof.Rows.slot_tuple_getitem.lookup,ht.typeIs,?_⟩
 refine HT.fz ht hs pl pu (by rw [hlen]; exact hw) ?_ (by rw [hlen]; exact hz)
 rw [hlen]
 refine ⟨.ref s.heap.objs.size,_,I.laid (t':=s.toks) (o:=.tup (jj xs lo hi)) (fun b ob q=>Z7 _ q) (Z10 _) ?_,rfl,q _ (I.hok.fresh (Z10 _))⟩
 exact ⟨Z24 (gK xs lo hi) hz,_,(r.drop (HT.sIx xs.length 0 lo)).take (HT.sIx xs.length xs.length hi - HT.sIx xs.length 0 lo),IsTup.new _ _⟩
noncomputable def sK (K:PySem.W.Frag):R2:=fun x y H Q=>∃ a b xs ys,x=.ref a/\y=.ref b/\SqT K H a xs/\SqT K H b ys/\xs ≠ []/\xs.length+ys.length<=sizeLine /\
 (ys=[]->Q (.ref a) H)/\(ys ≠ []->∀ p,H p=none->Q (.ref p) (upd H p (.tup (xs++ys))))
theorem Vals.nil_iff {xs:List V} {us:List Value} (r:Vals xs us):us=[] ↔ xs=[]:=by
 cases r with
 | nil=>simp
 | cons _ _=>simp
theorem vY:OpR X (binaryOp .Add) (sK X.K):=by
 intro pins s σ H x y v u Q I rx ry h
 obtain ⟨a,b,xs,ys,rfl,rfl,ha,hb,hx,hz,q1,q2⟩:=h
 cases rx
 cases ry
 obtain ⟨its,r1,p1,_⟩:=I.tuple ha
 obtain ⟨its2,r2,p2,_⟩:=I.tuple hb
 refine HT.vV p1 p2 (fun z=>hx (r1.nil_iff.mp z)) (fun z=>⟨.ref a,H,I,rfl,q1 (r2.nil_iff.mp z)⟩) (fun z=>?_) (by rw [<- r1.length,<- r2.length]; exact hz)
 refine ⟨.ref s.heap.objs.size,_,I.laid (t':=s.toks) (o:=.tup (xs++ys)) (fun b ob q=>Z7 _ q) (Z10 _) ?_,rfl,q2 (fun w=>z (r2.nil_iff.mpr w)) _ (I.hok.fresh (Z10 _))⟩
 exact ⟨by rw [Z17]; exact hz,_,r1.append r2,IsTup.new _ _⟩
end
noncomputable def ixN (n:Nat) (i:Int):Option Nat:=if 0<=i then (if i < n then some i.toNat else none) else if -(n:Int)<=i then some (i+n).toNat else none
noncomputable def atI {α:Type} (xs:List α) (i:Int):Option α:=(ixN xs.length i).bind fun j=>xs[j]?
theorem pC {n:Nat} {i:Int} {j:Nat} (h:ixN n i=some j):seqIndex? i n=some j/\j < n/\-(n:Int)<=i/\i < n:=by
 unfold ixN at h
 by_cases h0:0<=i
 · rw [if_pos h0] at h
   by_cases h1:i < n
   · rw [if_pos h1] at h
     have e:i.toNat=j:=Z27 h
     exact ⟨by rw [seqIndex_of h0 h1,e],by omega,by omega,h1⟩
   · rw [if_neg h1] at h; cases h
 · rw [if_neg h0] at h
   by_cases h1:-(n:Int)<=i
   · rw [if_pos h1] at h
     have e:(i+n).toNat=j:=Z27 h
     exact ⟨by rw [seqIndex_neg (by omega) h1,e],by omega,h1,by omega⟩
   · rw [if_neg h1] at h; cases h
theorem kN {α:Type} {xs:List α} {i:Int} {v:α} (h:atI xs i=some v):∃ j,seqIndex? i xs.length=some j/\xs[j]?=some v/\j < xs.length/\-(xs.length:Int)<=i/\i < xs.length:=by
 unfold atI at h
 cases e:ixN xs.length i with
 | none=>rw [e] at h; cases h
 | some j=>
   rw [e] at h
   obtain ⟨h1,h2,h3,h4⟩:=pC e
   exact ⟨j,h1,h,h2,h3,h4⟩
noncomputable def vZ (b:Expr):Prop:=∀ o i,subscripted b false o i=operate [o,i] (getItem o i)
noncomputable def IxR (X:Cx) (r:R2):Prop:=
 ∀ (value slice:Expr) (pins:List (Addr × Obj)) (s:Shared) (σ:St) (H:Hp) (x y:V) (v u:Value) (Q:VK),Inv X pins σ H s->RelV x v->RelV y u->r x y H Q ->
   subscripted slice false v u=operate [v,u] (getItem v u)->wpAny (model X.prog X.w) X.A (subscriptTail value slice v u) (EP X pins σ Q) X.xe s
noncomputable def MtR (X:Cx) (id:String) (r:V->List V->Hp->VK->Prop):Prop:=
 ∀ (pins:List (Addr × Obj)) (s:Shared) (σ:St) (H:Hp) (x:V) (xs:List V) (v:Value) (us:List Value) (Q:VK),Inv X pins σ H s->RelV x v->Vals xs us->r x xs H Q ->
   wpAny (model X.prog X.w) X.A (call (.builtin id) (v::us)) (EP X pins σ Q) X.xe s
section
variable {X:Cx} {a b:Expr} {ta tb:TE} {pos:Pos}
theorem IxR.or {r r':R2} (h:IxR X r) (h':IxR X r'):IxR X (fun x y H Q=>r x y H Q∨r' x y H Q):=by
 intro value slice pins s σ H x y v u Q I rx ry q hs
 rcases q with q | q
 · exact h value slice pins s σ H x y v u Q I rx ry q hs
 · exact h' value slice pins s σ H x y v u Q I rx ry q hs
theorem CD {r:R2} (hr:IxR X r) (ha:PE X a ta) (hb:PE X b tb) (hs:vZ b):PE X (.Subscript a b pos) (tOp r ta tb):=by
 intro pins s σ H Q I h
 exact Subscript_ (Af ha hb I h fun v u s2 x y H2 I2 rx ry q=>hr a b pins s2 σ H2 x y v u Q I2 rx ry q (hs _ _))
noncomputable def CF (K:PySem.W.Frag):R2:=fun x y H Q=>∃ p xs i v,x=.ref p/\y=.int i/\SqL K H p xs/\atI xs i=some v/\Q v H
noncomputable def CG (K:PySem.W.Frag):R2:=fun x y H Q=>∃ p xs i v,x=.ref p/\y=.int i/\SqT K H p xs/\atI xs i=some v/\Q v H
noncomputable def CH:R2:=fun x y H Q=>∃ z i c,x=.str z/\y=.int i/\z.length<=sizeLine/\atI z.cps.toList i=some c/\Q (.str ⟨#[c]⟩) H
theorem ix_list:IxR X (CF X.K):=by
 intro value slice pins s σ H x y v u Q I rx ry h hs
 obtain ⟨p,xs,i,z,rfl,rfl,hq,he,q⟩:=h
 cases rx
 obtain ⟨t,rfl⟩:=ry
 obtain ⟨its,r,pl,hz⟩:=I.list hq
 obtain ⟨j,h1,h2,h3,h4,h5⟩:=kN he
 obtain ⟨w,ew,rw'⟩:=r.get h2
 have hl:=r.length
 have hn:=fW
 have fin:EP X pins σ Q w s:=⟨z,H,I,rw',q⟩
 by_cases h0:0<=i
 · have hj:i.toNat=j:=by
     rw [seqIndex_of h0 h5] at h1
     exact Z27 h1
   exact item_listR pl.isList h0 (by omega) (by rw [hj]; simpa using ew) fin hs
 · have hj:(i+(its.toArray.size:Int)).toNat=j:=by
     rw [seqIndex_neg (by omega) h4] at h1
     rw [Z4,<- hl]
     exact Z27 h1
   exact subscriptTail_builtinR (x:=w) pl.isList.typeIs slot_list_getitem.lookup
     (wpAny_getItem_list_neg (Q:=fun r s'=>r=w/\EP X pins σ Q r s') pl.isList (by omega) (by rw [Z4] <;> omega) (by omega) (by rw [hj]; simpa using ew) ⟨rfl,fin⟩) hs
theorem ix_tup:IxR X (CG X.K):=by
 intro value slice pins s σ H x y v u Q I rx ry h hs
 obtain ⟨p,xs,i,z,rfl,rfl,hq,he,q⟩:=h
 cases rx
 obtain ⟨t,rfl⟩:=ry
 obtain ⟨its,r,pl,hz⟩:=I.tuple hq
 obtain ⟨j,h1,h2,h3,h4,h5⟩:=kN he
 obtain ⟨w,ew,rw'⟩:=r.get h2
 have hl:=r.length
 have hn:=fW
 have fin:EP X pins σ Q w s:=⟨z,H,I,rw',q⟩
 exact subscriptTail_builtinR (x:=w) pl.typeIs slot_tuple_getitem.lookup
   (getItem_tuple (j:=j) (Q:=fun r s'=>r=w/\EP X pins σ Q r s') pl (by omega) (by omega) (by rw [Z4,<- hl]; exact h1) (by simpa using ew) ⟨rfl,fin⟩) hs
theorem Aq:IxR X CH:=by
 intro value slice pins s σ H x y v u Q I rx ry h hs
 obtain ⟨z,i,c,rfl,rfl,hz,he,q⟩:=h
 obtain ⟨t,rfl⟩:=rx
 obtain ⟨t',rfl⟩:=ry
 obtain ⟨j,h1,h2,h3,h4,h5⟩:=kN he
 have hl:z.cps.toList.length=z.length:=by simp [Str.length]
 rw [hl] at h1 h4 h5
 have hn:=fW
 exact tail_any (typeIs_str s z t) slot_str_getitem.lookup (getItem_str (c:=c) (by
   have e1:decide (i < -(2 ^ 63:Int))=false:=decide_eq_false (by omega)
   have e2:decide (i ≥ 2 ^ 63)=false:=decide_eq_false (by omega)
   rw [e1,e2,Bool.or_false]) (by rw [h1]; simpa using h2) ⟨.str ⟨#[c]⟩,H,I.tok _,⟨_,rfl⟩,q⟩) hs
noncomputable def rIx (K:PySem.W.Frag):R2:=fun x y H Q=>CF K x y H Q∨CG K x y H Q∨CH x y H Q
theorem ix_seq:IxR X (rIx X.K):=ix_list.or (ix_tup.or Aq)
theorem nX (its:List Value) (n j:Nat) (u:Value):Obj.mapSeq (·.setIfInBounds j u) { cls:=.type "list",data:=.seq its.toArray n }={ cls:=.type "list",data:=.seq (its.set j u).toArray n }:=by
 simp [Obj.mapSeq]
theorem Inv.lst {pins:List (Addr × Obj)} {σ:St} {H:Hp} {s:Shared} {p:Addr} {xs:List V} (I:Inv X pins σ H s) (h:H p=some (.lst xs)) :
   ∃ (its:List Value) (n:Nat),Vals xs its/\s.heap.get? p=some { cls:=.type "list",data:=.seq its.toArray n }/\xs.length<=sizeLine:=by
 obtain ⟨z,its,n,r,e⟩:=I.hok p _ h
 exact ⟨its,n,r,e,z⟩
theorem Inv.lstUpd {pins:List (Addr × Obj)} {σ:St} {H:Hp} {s:Shared} {p:Addr} {xs ys:List V} {its its':List Value} {n n':Nat} {f:Obj->Obj} (I:Inv X pins σ H s) (h:H p=some (.lst xs))
   (ho:s.heap.get? p=some { cls:=.type "list",data:=.seq its.toArray n }) (hf:f { cls:=.type "list",data:=.seq its.toArray n }={ cls:=.type "list",data:=.seq its'.toArray n' }) (r:Vals ys its') (hz:ys.length<=sizeLine) (t:Nat) :
   Inv X pins σ (upd H p (.lst ys)) { s with heap:=s.heap.update p f,toks:=t }:=by
 have e:(s.heap.update p f).get? p=some { cls:=.type "list",data:=.seq its'.toArray n' }:=by
   rw [Heap.get?_update_self f ho (by rw [hf] <;> rfl),hf]
 refine I.write (x:=p) (e:=p) (by rw [h]; trivial) (.inl rfl) (fun b u hb q=>(Heap.get?_update_other _ _ (Ne.symm hb)).trans q) ⟨_,e⟩ ?_
 exact ⟨hz,its',n',r,e⟩
noncomputable def sL:V->V->V->Hp->(Hp->Prop)->Prop:=fun o i v H Q=>∃ p xs k j,o=.ref p/\i=.int k/\H p=some (.lst xs)/\ixN xs.length k=some j/\Q (upd H p (.lst (xs.set j v)))
theorem sM:vO X sL:=by
 intro pins s σ H o i v ov iv u Q I ro ri rv h
 obtain ⟨p,xs,k,j,rfl,rfl,hp,hj,q⟩:=h
 cases ro
 obtain ⟨t,rfl⟩:=ri
 obtain ⟨its,n,r,ho,hz⟩:=I.lst hp
 obtain ⟨h1,h2,h3,h4⟩:=pC hj
 have hl:=r.length
 have hn:=fW
 have I':Inv X pins σ (upd H p (.lst (xs.set j v))) { s with heap:=s.heap.update p (Obj.mapSeq (·.setIfInBounds j u)) }:=
   I.lstUpd hp ho (nX its n j u) (r.set rv j) (by rw [Z32]; exact hz) s.toks
 by_cases h0:0<=k
 · have hk:k.toNat=j:=by
     rw [seqIndex_of h0 h4] at h1
     exact Z27 h1
   exact PySem.W.ki_setAt ho h0 (by omega) (by rw [Z4,<- hl]; exact h4) (by rw [hk]; exact ⟨_,I',q⟩)
 · have hk:(k+(its.toArray.size:Int)).toNat=j:=by
     rw [seqIndex_neg (by omega) h3] at h1
     rw [Z4,<- hl]
     exact Z27 h1
   exact PySem.W.ki_setBack ho (by omega) (by rw [Z4,<- hl]; exact h3) (by omega) (by rw [hk]; exact ⟨_,I',q⟩)
theorem jF (i:Int) (n:Nat):max 0 (min (if i < 0 then i+(n:Int) else i) (n:Int))=((if i < 0 then (i+(n:Int)).toNat else min i.toNat n:Nat):Int):=by
 by_cases h:i < 0
 · rw [if_pos h,if_pos h,Int.min_eq_left (Int.le_trans (Int.add_le_add_right (Int.le_of_lt h) _) (Int.le_of_eq (Int.zero_add _))),Int.ofNat_toNat,Int.max_comm]
 · rw [if_neg h,if_neg h]
   obtain ⟨k,rfl⟩:=Int.eq_ofNat_of_zero_le (Int.not_lt.mp h)
   rw [Int.toNat_natCast,Int.max_eq_right (Int.le_min.mpr ⟨Int.natCast_nonneg k,Int.natCast_nonneg n⟩)]
   rcases Nat.le_total k n with z | z
   · rw [Nat.min_eq_left z,Int.min_eq_left (Int.ofNat_le.mpr z)]
   · rw [Nat.min_eq_right z,Int.min_eq_right (Int.ofNat_le.mpr z)]
theorem kO (lo hi:Option Int) (n:Nat):(sliceBounds lo hi none n).1=((HT.sIx n 0 lo:Nat):Int)/\(sliceBounds lo hi none n).2.1=((HT.sIx n n hi:Nat):Int)/\(sliceBounds lo hi none n).2.2=1:=by
 refine ⟨?_,?_,rfl⟩
 · cases lo with
   | none=>simp [sliceBounds,HT.sIx]
   | some i=>exact jF i n
 · cases hi with
   | none=>simp [sliceBounds,HT.sIx]
   | some i=>exact jF i n
theorem jk (its:List Value) (lo hi:Option Int):slicePick its.toArray lo hi none=((its.drop (HT.sIx its.length 0 lo)).take (HT.sIx its.length its.length hi - HT.sIx its.length 0 lo)).toArray:=by
 obtain ⟨h1,h2,h3⟩:=kO lo hi its.toArray.size
 unfold slicePick
 rw [h1,h2,h3]
 simp only [sliceRange_one,pick_run,Z4] <;> rfl
noncomputable def CI (K:PySem.W.Frag):V->Option Int->Option Int->Hp->VK->Prop:=fun x lo hi H Q=>∃ a xs,x=.ref a/\SqL K H a xs/\∀ p,H p=none->Q (.ref p) (upd H p (.lst (jj xs lo hi)))
theorem sl_list:SlR X (CI X.K):=by
 intro pins s σ H x v vl vu lo hi sl Q I rx hs pl pu h
 obtain ⟨a,xs,rfl,hx,q⟩:=h
 cases rx
 obtain ⟨its,r,ht,hz⟩:=I.list hx
 have hlen:=r.length
 refine ⟨"list",_,slot_list_getitem.lookup,ht.isList.typeIs,?_⟩
 refine wpAny_getItem_list_slice ht.isList hs pl pu .none (by simp) ?_ (by rw [Z4] <;> omega)
 rw [jk,<- hlen]
 refine ⟨.ref s.heap.objs.size,_,I.laid (t':=s.toks) (o:=.lst (jj xs lo hi)) (fun b ob q=>Z7 _ q) (Z10 _) ?_,rfl,q _ (I.hok.fresh (Z10 _))⟩
 exact ⟨Z24 (gK xs lo hi) hz,_,0,(r.drop (HT.sIx xs.length 0 lo)).take (HT.sIx xs.length xs.length hi - HT.sIx xs.length 0 lo),Z20 _ rfl⟩
noncomputable def bS:V->Bool
 | .non=>true
 | .bl _=>true
 | .int _=>true
 | .str _=>true
 | _=>false
noncomputable def eqV:V->V->Bool
 | .non,.non=>true
 | .bl a,.bl b=>a == b
 | .bl a,.int b=>(if a then 1 else 0) == b
 | .int a,.bl b=>a == (if b then 1 else 0)
 | .int a,.int b=>a == b
 | .str a,.str b=>a == b
 | _,_=>false
theorem CallR.or {f:Value} {r r':List V->Hp->VK->Prop} (h:CallR X f r) (h':CallR X f r'):CallR X f (fun xs H Q=>r xs H Q∨r' xs H Q):=by
 intro pins s σ H xs us Q I rs q
 rcases q with q | q
 · exact h pins s σ H xs us Q I rs q
 · exact h' pins s σ H xs us Q I rs q
theorem jm:CallR X (.type "tuple") (fun xs H Q=>∃ p ys,xs=[.ref p]/\((SqL X.K H p ys/\∀ l,H l=none->Q (.ref l) (upd H l (.tup ys)))∨(SqT X.K H p ys/\Q (.ref p) H))):=by
 intro pins s σ H xs us Q I r h
 obtain ⟨p,ys,rfl,h⟩:=h
 obtain ⟨u,rfl,rx⟩:=dh r
 cases rx
 rcases h with ⟨hq,q⟩ | ⟨hq,q⟩
 · obtain ⟨its,r',pl,hz⟩:=I.list hq
   have hlen:=r'.length
   refine call_tuple_list pl.isList (fun h' kp=>?_) (by simp only [Z4] <;> omega)
   have I1:Inv X pins σ H { s with heap:=h' }:=I.kept (t':=s.toks) kp
   have I2:Inv X pins σ (upd H h'.objs.size (.tup ys)) { s with heap:=h'.push { cls:=.type "tuple",data:=.seq its.toArray } }:=
     I1.laid (t':=s.toks) (fun b o e=>Z7 _ e) (Z10 _) (show ObjOk X.prog X.w _ _ _ (.tup ys) from ⟨hz,its,r',IsTup.new _ _⟩)
   exact ⟨.ref h'.objs.size,_,I2,rfl,q _ (I1.hok.fresh (Z10 _))⟩
 · obtain ⟨its,r',pl,hz⟩:=I.tuple hq
   exact call_tuple_same pl ⟨.ref p,H,I,rfl,q⟩
noncomputable def tyV (K:PySem.W.Frag) (T:String) (x:V) (H:Hp):Prop:=match x with
 | .str _=>T="str"
 | .int _=>T="int"
 | .ref p=>(T="list"/\∃ xs,SqL K H p xs)∨(T="tuple"/\∃ o,K.lookup p=some o/\o.cls=.type "tuple"/\o.dict=none) ∨
     (T="dict"/\((∃ kvs,H p=some (.dK kvs))∨∃ kvs,H p=some (.dT kvs)))∨(T="set"/\∃ S n,H p=some (.set S n))
 | _=>False
theorem sN {pins:List (Addr × Obj)} {σ:St} {H:Hp} {s:Shared} {T:String} {x:V} {v:Value} (I:Inv X pins σ H s) (r:RelV x v) (ty:tyV X.K T x H) :
   s.TypeIs v T/\∀ a,v=.ref a->∃ ob,s.heap.get? a=some ob/\ob.dict=none:=by
 cases x with
 | str z=>
   obtain ⟨t,rfl⟩:=r
   cases (show T="str" from ty)
   exact ⟨typeIs_str s z t,fun _ e=>nomatch e⟩
 | int i=>
   obtain ⟨t,rfl⟩:=r
   cases (show T="int" from ty)
   exact ⟨typeIs_int s i t,fun _ e=>nomatch e⟩
 | ref p=>
   cases r
   rcases ty with ⟨rfl,xs,hq⟩ | ⟨rfl,o,hk,hc,hd⟩ | ⟨rfl,hk⟩ | ⟨rfl,S,n,hk⟩
   · obtain ⟨its,_,pl,_⟩:=I.list hq
     refine ⟨pl.isList.typeIs,fun a e=>?_⟩
     cases e
     obtain ⟨o,n,e,c,hd,_⟩:=pl
     exact ⟨o,e,hd⟩
   · refine ⟨⟨o,I.kIn p o hk,hc⟩,fun a e=>?_⟩
     cases e
     exact ⟨o,I.kIn _ o hk,hd⟩
   · have z:∃ o,s.heap.get? p=some o/\o.ExactDict:=by
       rcases hk with ⟨kvs,hk⟩ | ⟨kvs,hk⟩
       · obtain ⟨_,_,_,_,o,_,_,e,ex,_⟩:=I.hok p _ hk
         exact ⟨o,e,ex⟩
       · obtain ⟨_,_,_,_,o,_,_,e,ex,_⟩:=I.hok p _ hk
         exact ⟨o,e,ex⟩
     obtain ⟨o,e,ex⟩:=z
     refine ⟨⟨o,e,ex.1⟩,fun a e2=>?_⟩
     cases e2
     exact ⟨o,e,ex.2.1⟩
   · obtain ⟨o,_,_,_,e,ex,_⟩:=I.hok p _ hk
     refine ⟨⟨o,e,ex.1⟩,fun a e2=>?_⟩
     cases e2
     exact ⟨o,e,ex.2.1⟩
 | _=>exact False.elim ty
noncomputable def Ar (K:PySem.W.Frag) (T:String) (r:V->List V->Hp->VK->Prop) (to:TE):TE:=fun σ H Q=>to σ H fun x H1=>tyV K T x H1/\r x [] H1 Q
noncomputable def tBM (K:PySem.W.Frag) (T:String) (r:V->List V->Hp->VK->Prop) (to:TE) (t:TA):TE:=fun σ H Q=>to σ H fun x H1=>tyV K T x H1/\t σ H1 fun xs H2=>r x xs H2 Q
variable {o e:Expr} {es:List Expr} {to:TE} {t:TA} {name:Str} {apos cpos:Pos} {T id:String} {r:V->List V->Hp->VK->Prop}
theorem As (pa:PlainAttrs T) (slot:Slot T name id) (hty:typeOf (.builtin id)=pure (.type "method_descriptor")) (hm:MtR X id r) (ho:PE X o to)
   (hbase:attributeBase o name X.env (eval o X.env)=eval o X.env:=by rfl) (hline:(apos.endLine == cpos.line)=true:=by rfl):PE X (.Call (.Attribute o name apos) [] [] cpos) (Ar X.K T r to):=by
 intro pins s σ H Q I h
 refine wpAny_Call_method0_late hbase hline (thn (ho pins s σ H _ I h) fun v s1 ⟨x,H1,I1,r1,ty,q1⟩=>?_)
 obtain ⟨h1,h2⟩:=sN I1 r1 ty
 exact ⟨T,id,pa,slot,hty,h1,h2,Calls.callWith_builtin rfl (PySem.evalArgs_none (hm pins s1 σ H1 x [] v [] Q I1 r1 .nil q1))⟩
theorem sO (pa:PlainAttrs T) (slot:Slot T name id) (hty:typeOf (.builtin id)=pure (.type "method_descriptor")) (hm:MtR X id r) (ho:PE X o to) (ha:PA X (e::es) t)
   (hbase:attributeBase o name X.env (eval o X.env)=eval o X.env:=by rfl)
   (hfew:((backTo cpos (starEach (e::es) X.env)).all (fun x=>!x.1) && (backToKw cpos (keywordEach [] X.env)).all (fun x=>x.1.isSome)
     && decide ((e::es).length+([]:List Keyword).length+(if ([]:List Keyword).isEmpty then 0 else 1) < 30))=true:=by rfl)
   (hline:(apos.endLine == cpos.line)=true:=by rfl) (hs:starEach (e::es) X.env=(false,eval e X.env)::starEach es X.env:=by rfl) (hplain:(backTo cpos (starEach es X.env)).any (·.1)=false:=by rfl) :
   PE X (.Call (.Attribute o name apos) (e::es) [] cpos) (tBM X.K T r to t):=by
 intro pins s σ H Q I h
 refine wpAny_Call_method_late hbase hfew hline rfl (thn (ho pins s σ H _ I h) fun v s1 ⟨x,H1,I1,r1,ty,q1⟩=>?_)
 obtain ⟨h1,h2⟩:=sN I1 r1 ty
 refine ⟨T,id,pa,slot,hty,h1,h2,?_⟩
 have hA:=ha cpos pins s1 σ H1 _ I1 q1
 rw [hs] at hA ⊢
 refine Calls.callWith_builtin (by show (false || (backTo cpos (starEach es X.env)).any (·.1))=false; rw [hplain] <;> rfl) (Calls.evalArgs_plain ?_)
 exact thn hA fun us s2 ⟨vs,H2,I2,r2,q2⟩=>hm pins s2 σ H2 x vs v us Q I2 r1 r2 q2
end
noncomputable def MtM (X:Cx) (id:String) (r:V->List V->Hp->VK->Prop):Prop:=
 ∀ (pins:List (Addr × Obj)) (s:Shared) (σ:St) (H:Hp) (x:V) (xs:List V) (v:Value) (us:List Value) (Q:VK),Inv X pins σ H s->RelV x v->Vals xs us->r x xs H Q ->
   wpAny (model X.prog X.w) X.A (call (.builtin id) (v::us)) (EP X pins σ Q) X.xe s
theorem Vals.one:∀ {x:V} {us:List Value},Vals [x] us->∃ u,us=[u]/\RelV x u:=by intro x us h; cases h with | cons r h=>cases h; exact ⟨_,rfl,r⟩
theorem Vals.zero:∀ {us:List Value},Vals [] us->us=[]:=by intro us h; cases h; rfl
theorem Vals.dropLast {xs:List V} {us:List Value} (h:Vals xs us):Vals xs.dropLast us.dropLast:=by
 induction h with
 | nil=>exact .nil
 | cons r t ih=>
   cases t with
   | nil=>exact .nil
   | cons q t'=>exact .cons r ih
theorem Vals.rep {xs:List V} {us:List Value} (h:Vals xs us):∀ k:Nat,Vals (List.replicate k xs).flatten (List.replicate k us).flatten
 | 0=>.nil
 | k+1=>by
   rw [Z22,Z22,Z39,Z39]
   exact Vals.append h (Vals.rep h k)
theorem nY {α:Type} (l:List α):l.eraseIdx (l.length - 1)=l.dropLast:=by
 induction l with
 | nil=>rfl
 | cons a r ih=>
   cases r with
   | nil=>rfl
   | cons b r=>
     have e:(a::b::r).length - 1=((b::r).length - 1)+1:=by
       have h1:(a::b::r).length=r.length+2:=rfl
       have h2:(b::r).length=r.length+1:=rfl
       omega
     rw [e,List.eraseIdx_cons_succ,ih]
     all_goals rfl
theorem jG (its:List Value):∀ (k:Nat) (acc:List Value),
   List.foldl (fun x1 x2=>x1++x2) acc.toArray (List.replicate k its.toArray)=(acc++(List.replicate k its).flatten).toArray
 | 0,acc=>by simp
 | k+1,acc=>by
   have e:acc.toArray++its.toArray=(acc++its).toArray:=by simp
   have e2:(acc++its)++(List.replicate k its).flatten=acc++(List.replicate (k+1) its).flatten:=by
     rw [Z22,Z39,List.append_assoc]
   rw [<- e2,<- jG its k (acc++its),<- e,Z22,Z40]
section
variable {X:Cx} {pins:List (Addr × Obj)} {σ:St} {H:Hp} {s:Shared} {l b:Addr} {xs ys zs:List V}
theorem Inv.lset {its its':List Value} {n:Nat} {f:Array Value->Array Value} {t':Nat} (I:Inv X pins σ H s) (hH:H l=some (.lst xs))
   (e:s.heap.get? l=some { cls:=.type "list",data:=.seq its.toArray n }) (hf:f its.toArray=its'.toArray) (hv:Vals ys its') (hz:ys.length<=sizeLine) :
   Inv X pins σ (upd H l (.lst ys)) { s with heap:=s.heap.update l (Obj.mapSeq f),toks:=t' }:=by
 have q:=PySem.IsL.update e f
 rw [hf] at q
 refine I.write (x:=l) (e:=l) (by rw [hH]; exact trivial) (.inl rfl) (fun b' u hb hu=>(Heap.get?_update_other s.heap (Obj.mapSeq f) (Ne.symm hb)).trans hu) ⟨_,q⟩ ?_
 exact ⟨hz,its',_,hv,q⟩
theorem Inv.lnew {its:List Value} {t':Nat} (I:Inv X pins σ H s) (hv:Vals ys its) (hz:ys.length<=sizeLine) :
   Inv X pins σ (upd H s.heap.objs.size (.lst ys)) { s with heap:=s.heap.push { cls:=.type "list",data:=.seq its.toArray },toks:=t' }:=
 I.laid (fun _ _ q=>Z7 _ q) (Z10 _) ⟨hz,its,0,hv,Z20 _ rfl⟩
theorem Inv.fresh (I:Inv X pins σ H s):H s.heap.objs.size=none:=I.hok.fresh (Z10 _)
theorem Inv.lstM (I:Inv X pins σ H s) (hH:H l=some (.lst xs)):xs.length<=sizeLine/\∃ (its:List Value) (n:Nat),Vals xs its/\xs.length=its.length/\s.heap.get? l=some { cls:=.type "list",data:=.seq its.toArray n }:=by
 obtain ⟨z,its,n,r,e⟩:=I.hok l _ hH
 exact ⟨z,its,n,r,r.length,e⟩
theorem sP {n:Nat} (h:n<=sizeLine):Builtin.List.listTooLong n=false:=by
 unfold Builtin.List.listTooLong
 exact decide_eq_false (by omega)
end
section
variable {X:Cx}
noncomputable def cO:V->List V->Hp->VK->Prop:=fun x vs H Q=>∃ l xs y,x=.ref l/\vs=[y]/\H l=some (.lst xs)/\xs.length < sizeLine/\Q .non (upd H l (.lst (xs++[y])))
theorem qB:MtM X "list.append" cO:=by
 intro pins s σ H x vs v us Q I rx rv h
 obtain ⟨l,xs,y,rfl,rfl,hH,hz,q⟩:=h
 cases rx
 obtain ⟨u,rfl,ru⟩:=rv.one
 obtain ⟨z,its,n,r,hl,e⟩:=I.lstM hH
 refine call_meets F.slot_list_append ⟨_,e,rfl⟩ F.entry_list_append (F.args_list_append_2 _ _) (PySem.list_append l its.toArray n u (by rw [Z4]; omega)) ⟨e,?_⟩
 refine ⟨.non,_,I.lset (its':=its++[u]) hH e (by simp) (r.append (.cons ru .nil)) ?_,rfl,q⟩
 rw [Z17,List.length_singleton]
 omega
noncomputable def CJ:V->List V->Hp->VK->Prop:=fun x vs H Q=>∃ l xs y,x=.ref l/\vs=[]/\H l=some (.lst xs)/\xs[xs.length - 1]?=some y/\Q y (upd H l (.lst xs.dropLast))
theorem At:MtM X "list.pop" CJ:=by
 intro pins s σ H x vs v us Q I rx rv h
 obtain ⟨l,xs,y,rfl,rfl,hH,hy,q⟩:=h
 cases rx
 have hus:=rv.zero
 subst hus
 obtain ⟨z,its,n,r,hl,e⟩:=I.lstM hH
 obtain ⟨u,hu,ru⟩:=r.get hy
 have hy':its.toArray[its.toArray.size - 1]?=some u:=by
   show its.toArray[its.length - 1]?=some u
   rw [<- Array.getElem?_toList,<- hl]
   exact hu
 refine call_meets F.slot_list_pop ⟨_,e,rfl⟩ F.entry_list_pop (F.args_list_pop_1 _) (MeetsSeq.list_pop_last l its.toArray n u hy' (by rw [Z4]; omega)) ⟨e,?_⟩
 refine ⟨y,_,I.lset (its':=its.dropLast) hH e ?_ r.dropLast ?_,ru,q⟩
 · show its.toArray.eraseIdxIfInBounds (its.toArray.size - 1)=its.dropLast.toArray
   rw [Z4,List.eraseIdxIfInBounds_toArray,nY]
 · rw [List.length_dropLast]
   omega
noncomputable def CK:R2:=fun x y H Q=>∃ l b xs zs,x=.ref l/\y=.ref b/\H l=some (.lst xs)/\H b=some (.lst zs)/\xs.length+zs.length<=sizeLine/\∀ p,H p=none->Q (.ref p) (upd H p (.lst (xs++zs)))
theorem Au:OpR X (binaryOp .Add) CK:=by
 intro pins s σ H x y v u Q I rx ry h
 obtain ⟨l,b,xs,zs,rfl,rfl,hH,hB,hz,q⟩:=h
 cases rx
 cases ry
 obtain ⟨z,its,n,r,hl,e⟩:=I.lstM hH
 obtain ⟨z2,its2,n2,r2,hl2,e2⟩:=I.lstM hB
 refine PySem.P.add_list e e2 ?_ (by rw [Z4,Z4]; omega)
 have ea:its.toArray++its2.toArray=(its++its2).toArray:=by simp
 rw [ea]
 exact ⟨.ref _,_,I.lnew (t':=s.toks) (r.append r2) (by rw [Z17]; omega),rfl,q _ I.fresh⟩
theorem v5 {α:Type} (xs:List α) (k:Nat):(List.replicate k xs).flatten.length=k * xs.length:=by
 induction k with
 | zero=>simp
 | succ k ih=>rw [Z22,Z39,Z17,ih,Nat.succ_mul,Nat.add_comm]
end
end L2
namespace Att
open PySem PySem.W PySem.Calls PyProof.Rows
theorem gU {P:Params} {h:Heap}:∀ (ns:List Int) (vs:List Value),WellAll P h vs (ns.map WData.int)->IntsAre vs ns:=by
 intro ns
 induction ns with
 | nil=>
   intro vs w
   rw [List.map_nil] at w
   cases w
   exact .nil
 | cons n ns ih=>
   intro vs w
   rw [Z6] at w
   cases w with
   | cons a b=>
     cases a
     exact .cons _ _ (ih _ b)
theorem qC {l:OpenLaw} {n:Nat} (hn:l.most=some n) {P:Params} {h:Heap} {args:List WData} {vals:List Value}
   (hpre:l.row.toRowW.claim.pre args=true) (hwl:WellAll P h vals args) :
   ∃ a vs ns,vals=[Value.ref a]/\args=[WData.list (ns.map WData.int)]/\h.get? a=some { cls:=.type "list",data:=.seq vs.toArray }/\IntsAre vs ns/\ns.length<=n:=by
 have hsh:WShape.hasAll [] args [.list .int]=true:=(pre_splitW hpre).1
 have hc:l.pre.holds [] { args:=args }=true:=(pre_splitW hpre).2
 obtain ⟨d,r,rfl,h1,h2⟩:=hasAllW_cons hsh
 obtain rfl:=hasAllW_nil h2
 obtain ⟨xs,rfl,h3⟩:=hasW_list h1
 obtain ⟨ns,rfl⟩:=items_int h3
 have hlen:ns.length<=n:=by
   unfold OpenLaw.pre at hc
   have h4:(WTm.not (.lt (.lit (.int (n:Int))) (.len (.arg 0)))).holds [] { args:=[.list (ns.map .int)] }=true:=by
     have h4:=(holds_andW hc).1
     rw [hn] at h4
     exact h4
   have h5:=condW_of h4 (w_not (w_lt w_lit (w_len_list (w_arg rfl))))
   rw [Z2] at h5
   refine Nat.le_of_not_lt fun q=>?_
   have q':(n:Int) < ((ns.length:Nat):Int):=by omega
   first
     | (rw [decide_eq_true q'] at h5; exact absurd h5 (by decide))
     | (simp at h5; omega)
 cases hwl with
 | cons w1 w2=>
   cases w2
   cases w1 with
   | list ho hall=>exact ⟨_,_,ns,rfl,rfl,ho,gU ns _ hall,hlen⟩
theorem qD (l:OpenLaw) (args:List WData):l.row.toRowW.claim.post args (.bool true) args=true:=
 postW_of (r:=l.row.toRowW) (X:=(true == true))
   (show WShape.has [] (.bool true) .bool=true by first | rfl | decide | simp [WShape.has,WShape.arms,WShape.armsAll])
   (show (WTm.eq .res (.lit (.bool true))).value [] { args:=args,res:=some (.bool true),after:=args }=some (.bool (true == true)) from w_eq_bool (w_res rfl) w_lit) rfl
theorem mi {l:OpenLaw} {n:Nat} {q:Program} {loose:List Str} {XP:(Str->Option Value)->Heap->Prop} {YP:World->Heap->Prop} {d:DefRec}
   (hn:l.most=some n) (hdf:d.params.defaults=[])
   (call:∀ (w:World) (s₀ s₁:Shared) (mg mb:Str->Option Value) (fa:Addr) (o:Obj) (pm cd doc:Value) (a:Addr) (vs:List Value) (ns:List Int),
     Ground q loose [] XP w s₀ mg mb s₁.heap->YP w s₁.heap ->
     s₁.heap.get? fa=some o->o.data=.func (docDef d.name d.params d.body d.scope pm cd doc)->s₁.heap.CodeRec cd d.name->mg d.name=some (.ref fa) ->
     s₁.heap.get? a=some { cls:=.type "list",data:=.seq vs.toArray }->IntsAre vs ns->ns.length<=n->s₁.gens=#[] ->
     codeAny (model l.prog w) callerA (.call (.ref fa) ⟨[.ref a],[]⟩) (fun r s'=>r=.ok (.ret (.bool true))/\OldK s₁.heap s'.heap/\s'.os=s₁.os/\AllBare s'.gens) s₁) :
   WalkO q loose XP YP l.row.toRowW d [] (fun f vs=>PySem.call f vs):=by
 intro w s₀ s₁ mg mb G Y fa o pm cd doc dV kV ho hd hcd hD hmg hg args vals as hpre hlay hrd hwl hlo
 obtain rfl:dV=.none:=Dflts.none hD hdf
 obtain rfl:kV=.none:=Dflts.noKw hD
 obtain ⟨a,vs,ns,rfl,rfl,hobj,hints,hlen⟩:=qC hn hpre hwl
 refine enter_call (codeAny_mono (call w s₀ s₁ mg mb fa o pm cd doc a vs ns G Y ho (fd_plain hd) hcd hmg hobj hints hlen hg) fun r s' hq=>?_)
 obtain ⟨rfl,h2,h3,h4⟩:=hq
 exact ⟨.inl ⟨.bool true,.bool true,[],rfl,fun _=>rfl,.bool true,qD l _,fun _=>⟨List.Pairwise.nil,fun _ hm=>(nomatch hm)⟩⟩,h2,h3,h4⟩
end Att
namespace L2
open PySem PySem.Spec PyProof.Rows
theorem dR:∀ {vs:List Value} {ns:List Int},IntsAre vs ns->Vals (ns.map V.int) vs
 | _,_,.nil=>.nil
 | _,_,.cons n t h=>.cons ⟨t,rfl⟩ (dR h)
noncomputable def v6 (H:Hp):Prop:=∀ b,H b=none∨∃ o xs,H b=some (.frz o (.lst xs))
theorem sQ {P:Program} {w:World} {K:PySem.W.Frag} {mg mb:Str->Option Value} {CX:CXT} {k:Nat} {fa a:Addr} {fd:FuncData} {x:Str} {sp:Sp} {s₁:Shared} {vs:List Value} {ns:List Int}
   (KX:K.In s₁.heap) (hns:s₁.heap.Ns mainGlobals mg) (hb:s₁.heap.Ns builtinsNs mb) (hbb:∀ x:Str,x ≠ "__name__"->mb x=bootBuiltins x) (hlim:s₁.heap.NoLimit) (hg:s₁.gens=#[])
   (ha:s₁.heap.get? a=some { cls:=.type "list",data:=.seq vs.toArray }) (hi:IntsAre vs ns) (hl:ns.length<=sizeLine) (hr:Room k callerA)
   (F:∀ base:Heap,K.In base->base.Ns mainGlobals mg->FnOk P w K mg base CX k fa fd [x] sp) (hbind:∀ (s:Shared) (u:Value),BindsTo s fd ⟨[u],[]⟩ [(x,u)])
   (hsp:∀ H:Hp,v6 H->SqL K H a (ns.map V.int)->sp [.ref a] H (fun v _=>v=.bl true) fun _ _ _=>False)
   (hCX:∀ H e s',CX [] H s₁ (fun _ _ _=>False) e s'->False) :
   codeAny (model P w) callerA (.call (.ref fa) ⟨[.ref a],[]⟩) (fun r s'=>r=.ok (.ret (.bool true))/\OldK s₁.heap s'.heap/\s'.os=s₁.os/\AllBare s'.gens) s₁:=by
 have rv:=dR hi
 have lenV:=hi.length
 have core:∀ H:Hp,v6 H->SqL K H a (ns.map V.int)->HOk P w H s₁.heap->(∀ b,H b ≠ none->b=a)->(H a ≠ none->K.lookup a=none) ->
     codeAny (model P w) callerA (.call (.ref fa) ⟨[.ref a],[]⟩) (fun r s'=>r=.ok (.ret (.bool true))/\OldK s₁.heap s'.heap/\s'.os=s₁.os/\AllBare s'.gens) s₁:=by
   intro H hO hS hok hA hK
   have base_of:∀ {b:Addr} {o:Obj},s₁.heap.get? b=some o->H b=none->(kH s₁.heap H).get? b=some o:=fun e n=>sr e n
   have noA:∀ {b:Addr} {o:Obj} {es:Array DictEntry} {ep:Nat},s₁.heap.get? b=some o->o.data=.dict es ep->H b=none:=fun {b o es ep} e d=>by
     cases q:H b with
     | none=>rfl
     | some u=>
       have e':b=a:=hA b (by rw [q]; simp)
       subst e'
       rw [ha] at e; cases e
       have d':Data.seq vs.toArray _=Data.dict es ep:=d
       cases d'
   have nsK:∀ {b:Addr} {m:Str->Option Value},s₁.heap.Ns b m->(kH s₁.heap H).Ns b m:=fun {b m} ⟨o,es,ep,e,d,r⟩=>⟨o,es,ep,base_of e (noA e d),d,r⟩
   have hKb:K.In (kH s₁.heap H):=fun b o e=>base_of (KX b o e) (by
     cases q:H b with
     | none=>rfl
     | some u=>
       have e':b=a:=hA b (by rw [q]; simp)
       subst e'
       rw [hK (by rw [q]; simp)] at e; cases e)
   have hM:Mod K mg (kH s₁.heap H):=⟨hKb,nsK hns,⟨mb,nsK hb,hbb⟩,let ⟨mc,h1,h2⟩:=hlim; ⟨mc,nsK h1,h2⟩⟩
   have e0:Env0 P w K mg (kH s₁.heap H) callerA [] s₁ H:=⟨rfl,hM,fun b o e=>vJ e,Nat.le_of_eq (qq _ _),trivial,fun b hb=>absurd (show b ∈ ([]:List Addr) from hb) (by simp),hok,.of_eq hg⟩
   refine codeAny_mono ((F _ hKb (nsK hns)).run callerA [] s₁ H ⟨[.ref a],[]⟩ [.ref a] [.ref a] _ _ hr e0 (hbind s₁ (.ref a)) (.cons rfl .nil) (hsp H hO hS)) fun r s' h=>?_
   cases r with
   | error e=>exact (hCX H e s' h).elim
   | ok fl=>
     cases fl with
     | next=>exact False.elim h
     | brk=>exact False.elim h
     | cont=>exact False.elim h
     | ret u=>
       obtain ⟨v,H',os,bare,un,hok',r',q⟩:=h
       have q':v=.bl true:=q
       subst q'
       obtain rfl:u=Value.bool true:=r'
       refine ⟨rfl,OldK.of_keep fun b o e=>?_,os,bare⟩
       cases q:H b with
       | none=>exact un.keep b o e q (by intro z; exact absurd (show b ∈ ([]:List Addr) from z) (by simp)) (by simp)
       | some u=>
         rcases hO b with z | ⟨ob,xs,z⟩
         · rw [q] at z; cases z
         · have z2:=un.frzs b ob _ z
           obtain ⟨e1,_⟩:=hok b _ z
           obtain ⟨e2,_⟩:=hok' b _ z2
           rw [e] at e1; cases e1
           exact e2
 cases hk:K.lookup a with
 | some o=>
   have e:=KX a o hk
   rw [ha] at e
   cases e
   refine core (fun _=>none) (fun _=>.inl rfl) (.inr ⟨_,vs.toArray,_,hk,rfl,rfl,rfl,by rw [Z4,lenV]; exact hl,by simpa using rv⟩) (fun b u z=>by have z':(none:Option HO)=some u:=z; cases z') (fun b z=>absurd rfl z) fun z=>absurd rfl z
 | none=>
   refine core (fun b=>if b=a then some (.frz { cls:=.type "list",data:=.seq vs.toArray } (.lst (ns.map V.int))) else none) (fun b=>?_) (.inl (.inr ⟨{ cls:=.type "list",data:=.seq vs.toArray },if_pos rfl⟩)) (fun b u z=>?_) (fun b z=>?_) fun _=>hk
   · by_cases hb:b=a
     · exact .inr ⟨_,_,if_pos hb⟩
     · exact .inl (if_neg hb)
   · by_cases hb:b=a
     · have z':=(if_pos hb).symm.trans z
       cases z'
       subst hb
       exact ⟨ha,by rw [Z2]; exact hl,vs,_,rv,ha⟩
     · have z':=(if_neg hb).symm.trans z
       cases z'
   · by_cases hb:b=a
     · exact hb
     · exact absurd (if_neg hb) z
theorem v7 {l:PySem.W.OpenLaw} {n k:Nat} {q:Program} {loose:List Str} {XP:(Str->Option Value)->Heap->Prop} {YP:World->Heap->Prop} {d:DefRec} {K:Params->PySem.W.Frag} {CX:World->CXT} {sp:World->Sp} {x:Str}
   (hn:l.most=some n) (hn2:n<=sizeLine) (hdf:d.params.defaults=[]) (hr:Room k callerA)
   (hY:∀ (w:World) (h:Heap),YP w h->(K w.params).In h)
   (F:∀ (w:World) (mg:Str->Option Value) (fa:Addr) (h:Heap),(K w.params).In h->h.Ns mainGlobals mg->mg d.name=some (.ref fa) ->
     ∃ fd:FuncData,(∀ (s:Shared) (u:Value),BindsTo s fd ⟨[u],[]⟩ [(x,u)]) /\
       ∀ base:Heap,(K w.params).In base->base.Ns mainGlobals mg->FnOk l.prog w (K w.params) mg base (CX w) k fa fd [x] (sp w))
   (hsp:∀ (w:World) (H:Hp) (a:Addr) (ns:List Int),ns.length<=n->v6 H->SqL (K w.params) H a (ns.map V.int)->sp w [.ref a] H (fun v _=>v=.bl true) fun _ _ _=>False)
   (hCX:∀ (w:World) (H:Hp) (s:Shared) (e:Value) (s':Shared),CX w [] H s (fun _ _ _=>False) e s'->False) :
   PySem.W.WalkO q loose XP YP l.row.toRowW d [] (fun f vs=>PySem.call f vs):=by
 refine Att.mi hn hdf fun w s₀ s₁ mg mb fa o pm cd doc a vs ns G Y ho hd hcd hmg hobj hints hlen hg=>?_
 have KX:=hY w _ Y
 obtain ⟨fd,hb,hF⟩:=F w mg fa _ KX G.T.g hmg
 exact sQ KX G.T.g G.T.b G.T.builtins G.T.nolimit hg hobj hints (Z24 hlen hn2) hr hF hb (fun H hO hS=>hsp w H a ns hlen hO hS) fun H e s'=>hCX w H s₁ e s'
noncomputable def aB (s:Stmt):Arguments:=match s with
 | .FunctionDef _ a _ _ _ _ _ _ _ _=>a
 | _=>{ posonlyargs:=[],args:=[],vararg:=none,kwonlyargs:=[],kw_defaults:=[],kwarg:=none,defaults:=[] }
noncomputable def ax (s:Stmt):List Stmt:=match s with
 | .FunctionDef _ _ b _ _ _ _ _ _ _=>b
 | _=>[]
noncomputable def ag (s:Stmt):Scope:=match s with
 | .FunctionDef _ _ _ _ _ _ sc _ _ _=>sc
 | _=>{ kind:=.function,names:=[],isGenerator:=false,isCoroutine:=false }
noncomputable abbrev CX0:CXT:=fun _ _ _ _ _ _=>False
noncomputable abbrev E0:XK:=fun _ _ _=>False
theorem CL {X:Cx}:nU CX0 X E0:=fun _ _ _ _ _ _ _ h=>h.elim
structure Fun (K:PySem.W.Frag) (x qual:Str) (st:Stmt) (f:Addr) (fd:FuncData):Prop where
 ex:∃ (oc:Value) (od:Option Addr) (kV doc pm:Value) (an:Option Addr) (cdv ct:Value) (osl:Array (Option Value)),
   fd=PySem.W.fnOf x qual (aB st) (ax st) (ag st) .none kV doc pm an cdv ct/\K.lookup f=some ⟨oc,od,.func fd,osl⟩/\PySem.W.codeIn K cdv qual=true
 kp:PySem.W.keepIn K (.ref f)=true
section
variable {P:Program} {w:World} {K:PySem.W.Frag} {mg:Str->Option Value} {base:Heap}
theorem Fun.ok {x qual:Str} {st:Stmt} {f:Addr} {fd:FuncData} {N ps:List Str} {k:Nat} {sp:Sp} (F:Fun K x qual st f fd) (S:FnScope N ps (ag st)) (len:∀ vs H Q E,sp vs H Q E->vs.length=ps.length)
   (hbody:∀ (cdv:Value) (A:Around) (outer:List Env) (s:Shared) (H:Hp) (vs:List V) (Q:VK) (E:XK),Room k (A.deeper (envOfC qual (ag st) s.heap.objs.size f cdv))->sp vs H Q E ->
     ∃ t,PSs (iq CX0 P w K mg base N qual (ag st) f cdv A outer s H E).nox (ax st) t/\t { nx:=fun _ H'=>Q .non H',rt:=Q } (start N vs) H):FnOk P w K mg base CX0 (k+1) f fd ps sp:=by
 obtain ⟨oc,od,kV,doc,pm,an,cdv,ct,osl,rfl,lk,hcd⟩:=F.ex
 refine CB lk hcd S len fun A outer s H vs Q E hr hsp=>?_
 obtain ⟨t,h,q⟩:=hbody cdv A outer s H vs Q E hr hsp
 exact ⟨t,h.nox,q⟩
theorem Fun.binds {x qual:Str} {st:Stmt} {f:Addr} {fd:FuncData} {ps:List Str} (F:Fun K x qual st f fd)
   (h:∀ (kV doc pm:Value) (an:Option Addr) (cdv ct:Value) (us:List Value),us.length=ps.length->bindArgs (PySem.W.fnOf x qual (aB st) (ax st) (ag st) .none kV doc pm an cdv ct) ⟨us,[]⟩=pure (ps.zip us)):Binds K fd ps []:=by
 obtain ⟨oc,od,kV,doc,pm,an,cdv,ct,osl,rfl,lk,hcd⟩:=F.ex
 exact .all (h kV doc pm an cdv ct)
theorem aR {x qual:Str} {st:Stmt} {f:Addr} {oc:Value} {od an:Option Addr} {osl:Array (Option Value)} {kV doc pm cdv ct:Value} (l:K.lookup f=some ⟨oc,od,.func (PySem.W.fnOf x qual (aB st) (ax st) (ag st) .none kV doc pm an cdv ct),osl⟩)
   (c:PySem.W.codeIn K cdv qual=true) (k:PySem.W.keepIn K (.ref f)=true):Fun K x qual st f (PySem.W.fnOf x qual (aB st) (ax st) (ag st) .none kV doc pm an cdv ct):=⟨⟨oc,od,kV,doc,pm,an,cdv,ct,osl,rfl,l,c⟩,k⟩
end
section
variable {X:Cx}
theorem pv (i:Nat) {x:Str} {pos:Pos} (hN:X.N[i]?=some x:=by rfl) (hv:Vis X.env.scope x:=by first | exact Or.inl rfl | exact Or.inr (Or.inl rfl) | exact Or.inr (Or.inr rfl)) (hd:(x == ("__debug__":Str))=false:=by decide)
   (hcd:(x == ("__classdict__":Str))=false:=by decide):PE X (.Name x pos) (aU i):=zN hN hv hd hcd
end
theorem kP {A B:Prop} (h:B):if false=true then A else B:=by
 rw [if_neg Z28]
 exact h
theorem kQ {A B:Prop} (h:A):if true=true then A else B:=by
 rw [if_pos rfl]
 exact h
noncomputable def Same (H H':Hp):Prop:=∀ b o,H b=some o->H' b=some o
theorem Same.refl (H:Hp):Same H H:=fun _ _ h=>h
theorem Same.seq {K:PySem.W.Frag} {H H':Hp} {a:Addr} {xs:List V} (e:Same H H') (h:SqL K H a xs):SqL K H' a xs:=by
 rcases h with (h | ⟨o,h⟩) | h
 · exact .inl (.inl (e _ _ h))
 · exact .inl (.inr ⟨o,e _ _ h⟩)
 · exact .inr h
section
variable {κ:Type} [DecidableEq κ]
noncomputable def eR (kvs:List (κ × V)) (k:κ):Option V:=(kvs.find? fun kv=>decide (kv.1=k)).map (·.2)
noncomputable def db (kvs:List (κ × V)) (k:κ) (v:V):List (κ × V):=
 if (kvs.any fun kv=>decide (kv.1=k))=true then kvs.map (fun kv=>if kv.1=k then (kv.1,v) else kv) else kvs++[(k,v)]
theorem fA {p:κ × V} {r:List (κ × V)} {k:κ} (e:p.1=k):eR (p::r) k=some p.2:=by simp [eR,Z44,e]
theorem fB {p:κ × V} {r:List (κ × V)} {k:κ} (e:¬ p.1=k):eR (p::r) k=eR r k:=by simp [eR,Z44,e]
theorem iw (k:κ):∀ kvs:List (κ × V),(kvs.any fun kv=>decide (kv.1=k))=(eR kvs k).isSome
 | []=>rfl
 | p::r=>by
   rw [List.any_cons]
   by_cases e:p.1=k
   · simp only [fA e,decide_eq_true e,Bool.true_or,Option.isSome_some]
   · rw [fB e,decide_eq_false e,Bool.false_or]; exact iw k r
theorem gL (kvs:List (κ × V)) (k:κ) (v:V):(db kvs k v).length<=kvs.length+1:=by
 unfold db
 split
 · rw [Z2]; omega
 · rw [Z17,Z58,List.length_nil]; omega
theorem RelO.isSome_eq {o:Option V} {u:Option Value} (r:RelO o u):o.isSome=u.isSome:=by
 cases o with
 | none=>cases u with
   | none=>rfl
   | some _=>exact (show False from r).elim
 | some _=>cases u with
   | none=>exact (show False from r).elim
   | some _=>rfl
theorem KV.val {kvs:List (κ × V)} {vs:List (κ × Value)} (r:KV kvs vs) (k:κ):RelO (eR kvs k) (valueAt vs k):=by
 unfold KV at r
 induction r with
 | nil=>exact True.intro
 | @cons p q ps qs h t ih=>
   obtain ⟨h1,h2⟩:=h
   by_cases e:p.1=k
   · have e':q.1=k:=h1.symm.trans e
     have b:valueAt (q::qs) k=some q.2:=by simp [valueAt,Z44,e']
     rw [fA e,b]; exact h2
   · have e':¬ q.1=k:=fun z=>e (h1.trans z)
     have b:valueAt (q::qs) k=valueAt qs k:=by simp [valueAt,Z44,e']
     rw [fB e,b]; exact ih
theorem KV.any {kvs:List (κ × V)} {vs:List (κ × Value)} (r:KV kvs vs) (k:κ):(kvs.any fun kv=>decide (kv.1=k))=vs.any fun kv=>decide (kv.1=k):=by
 unfold KV at r
 induction r with
 | nil=>rfl
 | cons h t ih=>rw [List.any_cons,List.any_cons,ih,h.1]
theorem KV.repl {kvs:List (κ × V)} {vs:List (κ × Value)} (r:KV kvs vs) (k:κ) {y:V} {u:Value} (ry:RelV y u) :
   KV (kvs.map fun kv=>if kv.1=k then (kv.1,y) else kv) (vs.map fun kv=>if kv.1=k then (kv.1,u) else kv):=by
 unfold KV at r ⊢
 induction r with
 | nil=>exact .nil
 | @cons p q ps qs h t ih=>
   rw [Z6,Z6]
   refine .cons ?_ ih
   obtain ⟨h1,h2⟩:=h
   by_cases e:p.1=k
   · rw [if_pos e,if_pos (h1.symm.trans e)]; exact ⟨h1,ry⟩
   · rw [if_neg e,if_neg (fun z=>e (h1.trans z))]; exact ⟨h1,h2⟩
theorem KV.put {kvs:List (κ × V)} {vs:List (κ × Value)} (r:KV kvs vs) (k:κ) {y:V} {u:Value} (ry:RelV y u):KV (db kvs k y) (stored vs k u):=by
 unfold db stored
 rw [r.any k]
 by_cases e:(vs.any fun kv=>decide (kv.1=k))=true
 · rw [if_pos e,if_pos e]; exact r.repl k ry
 · rw [if_neg e,if_neg e]; exact Paired.snoc r ⟨rfl,ry⟩
theorem KV.length {kvs:List (κ × V)} {vs:List (κ × Value)} (r:KV kvs vs):kvs.length=vs.length:=Paired.length r
end
theorem sR {P:Program} {w:World} {k:Key} {u:Value} (r:RelV (kV k) u):(aI P w).is k u=true:=by
 cases k with
 | inl i=>obtain ⟨t,e⟩:=(show ∃ t,u=Value.int i t from r); subst e; exact lV P w i t
 | inr x=>obtain ⟨t,e⟩:=(show ∃ t,u=Value.str x t from r); subst e; exact lW P w x t
theorem fY {P:Program} {w:World}:∀ {ks:List Key} {us:List Value},Vals (ks.map kV) us->ItemsAre (aI P w) ks us
 | [],_,r=>by rw [List.map_nil] at r; cases r; exact .nil
 | k::ks,_,r=>by
   rw [Z6] at r
   cases r with
   | cons h t=>exact .cons (sR h) (fY t)
noncomputable abbrev KTd (H:Hp):List (List Key × V)->List (List Key × Addr × Value)->Prop:=Paired fun p q=>p.1=q.1/\H q.2.1=some (.tup (p.1.map kV))/\RelV p.2 q.2.2
theorem KTd.val {H:Hp} {kvs:List (List Key × V)} {xs:List (List Key × Addr × Value)} (r:KTd H kvs xs) (k:List Key):RelO (eR kvs k) ((atKey xs k).map (·.2)):=by
 induction r with
 | nil=>exact True.intro
 | @cons p q ps qs h t ih=>
   obtain ⟨h1,_,h2⟩:=h
   by_cases e:p.1=k
   · have e':q.1=k:=h1.symm.trans e
     have b:atKey (q::qs) k=some q.2:=by simp [atKey,Z44,e']
     rw [fA e,b]; exact h2
   · have e':¬ q.1=k:=fun z=>e (h1.trans z)
     have b:atKey (q::qs) k=atKey qs k:=by simp [atKey,Z44,e']
     rw [fB e,b]; exact ih
theorem KTd.repl {H:Hp} {kvs:List (List Key × V)} {xs:List (List Key × Addr × Value)} (r:KTd H kvs xs) (k:List Key) {y:V} {u:Value} (ry:RelV y u) :
   KTd H (kvs.map fun kv=>if kv.1=k then (kv.1,y) else kv) (xs.map (putAt k u)):=by
 induction r with
 | nil=>exact .nil
 | @cons p q ps qs h t ih=>
   rw [Z6,Z6]
   refine .cons ?_ ih
   obtain ⟨h1,h2,h3⟩:=h
   unfold putAt
   by_cases e:p.1=k
   · rw [if_pos e,if_pos (h1.symm.trans e)]; exact ⟨h1,h2,ry⟩
   · rw [if_neg e,if_neg (fun z=>e (h1.trans z))]; exact ⟨h1,h2,h3⟩
theorem KTd.put {H:Hp} {kvs:List (List Key × V)} {xs:List (List Key × Addr × Value)} (r:KTd H kvs xs) (k:List Key) {b:Addr} {y:V} {u:Value} (hb:H b=some (.tup (k.map kV))) (ry:RelV y u) :
   KTd H (db kvs k y) (storedH xs k b u):=by
 have e:(kvs.any fun kv=>decide (kv.1=k))=(atKey xs k).isSome:=by
   rw [iw,(r.val k).isSome_eq,Option.isSome_map]
 unfold db storedH
 rw [e]
 by_cases q:(atKey xs k).isSome=true
 · rw [if_pos q,if_pos q]; exact r.repl k ry
 · rw [if_neg q,if_neg q]; exact Paired.snoc r ⟨rfl,hb,ry⟩
theorem KTd.keeps {H H':Hp} {kvs:List (List Key × V)} {xs:List (List Key × Addr × Value)} (r:KTd H kvs xs) (ht:∀ b ys,H b=some (.tup ys)->H' b=some (.tup ys)):KTd H' kvs xs:=
 Paired.mapP r fun _ _ z=>⟨z.1,ht _ _ z.2.1,z.2.2⟩
section
variable {P:Program} {w:World} {H:Hp} {h:Heap} {a:Addr}
theorem yV {u:HO} (ok:HOk P w H h) (e:Rd H a u):ObjOk P w H h a u:=e.ok ok
theorem sS {kvs:List (Key × V)} (ok:HOk P w H h) (e:Rd H a (.dK kvs)):kvs.length<=sizeLine/\(a == sysModules)=false/\∃ vs,KV kvs vs/\h.DictOf (aI P w) a vs:=
 show ObjOk P w H h a (.dK kvs) from yV ok e
theorem CM {kvs:List (Key × V)} (ok:HOk P w H h) (e:H a=some (.dK kvs)):kvs.length<=sizeLine/\(a == sysModules)=false/\∃ vs,KV kvs vs/\h.DictOf (aI P w) a vs:=sS ok (.inl e)
theorem kR {ks:List Key} (ok:HOk P w H h) (e:H a=some (.tup (ks.map kV))):(tupleKind (aI P w)).is h ks a:=by
 obtain ⟨_,its,r,o,h1,h2,n,h3⟩:=(show ObjOk P w H h a (.tup (ks.map kV)) from ok a _ e)
 exact ⟨o,its.toArray,n,h1,h2,h3,by simpa using fY r⟩
theorem sT {kvs:List (List Key × V)} (ok:HOk P w H h) (e:Rd H a (.dT kvs)):kvs.length<=sizeLine/\(a == sysModules)=false /\
   ∃ xs,KTd H kvs xs/\h.DictOfH (tupleKind (aI P w)) a xs:=by
 obtain ⟨z,y,xs,r,o,es,ep,h1,h2,h3,h4,h5⟩:=(show ObjOk P w H h a (.dT kvs) from yV ok e)
 refine ⟨z,y,xs,r,o,es,ep,h1,h2,h3,h4,fun x hx=>?_,h5⟩
 have all:∀ {l:List (List Key × V)} {m:List (List Key × Addr × Value)},KTd H l m->∀ x ∈ m,(tupleKind (aI P w)).is h x.1 x.2.1:=by
   intro l m q
   induction q with
   | nil=>intro x hx; exact nomatch hx
   | @cons p q ps qs hq t ih=>
     intro x hx
     rcases Z19.mp hx with e | hx
     · subst e
       exact kR ok (by rw [<- hq.1]; exact hq.2.1)
     · exact ih x hx
 exact all r x hx
theorem sU {kvs:List (List Key × V)} (ok:HOk P w H h) (e:H a=some (.dT kvs)):kvs.length<=sizeLine/\(a == sysModules)=false /\
   ∃ xs,KTd H kvs xs/\h.DictOfH (tupleKind (aI P w)) a xs:=sT ok (.inl e)
end
noncomputable def Av (H:Hp) (a:Addr) (y:V) (r:Option V):Prop:=
 (∃ kvs k,Rd H a (.dK kvs)/\y=kV k/\r=eR kvs k)∨∃ kvs k b,Rd H a (.dT kvs)/\y=.ref b/\H b=some (.tup (k.map kV))/\r=eR kvs k
noncomputable def DPut (H:Hp) (a:Addr) (y v:V) (H':Hp):Prop:=
 (∃ kvs k,H a=some (.dK kvs)/\y=kV k/\kvs.length < sizeLine/\H'=upd H a (.dK (db kvs k v))) ∨
 ∃ kvs k b,H a=some (.dT kvs)/\y=.ref b/\H b=some (.tup (k.map kV))/\kvs.length < sizeLine/\H'=upd H a (.dT (db kvs k v))
theorem DPut.t {H:Hp} {a b:Addr} {kvs:List (List Key × V)} {k:List Key} {v:V} (e:H a=some (.dT kvs)) (eb:H b=some (.tup (k.map kV))) (hl:kvs.length < sizeLine) :
   DPut H a (.ref b) v (upd H a (.dT (db kvs k v))):=.inr ⟨kvs,k,b,e,rfl,eb,hl,rfl⟩
section
variable {X:Cx} {pins:List (Addr × Obj)} {σ:St} {H:Hp} {s:Shared} {a:Addr} {y v:V} {u r:Value} {o:Option V} {A:Around} {E:Value->Shared->Prop}
theorem Inv.big (I:Inv X pins σ H s):sysModules < s.heap.objs.size:=by
 have h:mainGlobals < s.heap.objs.size:=(I.mod.glob.keeps I.bk).lt
 exact Nat.lt_trans (by decide) h
theorem qE {Q:Value->Shared->Prop} (hu:A.units+1 < cLine) (I:Inv X pins σ H s) (g:Av H a y (some v)) (ry:RelV y u) (h:∀ w' s',Inv X pins σ H s'->RelV v w'->Q w' s') :
   wpAny (model X.prog X.w) A (getItem (.ref a) u) Q E s:=by
 rcases g with ⟨kvs,k,e,ey,l⟩ | ⟨kvs,k,b,e,ey,eb,l⟩
 · subst ey
   obtain ⟨z,hd,vs,rel,dd⟩:=sS I.hok e
   obtain ⟨w',hw,rw'⟩:=RelO.some_of (v:=v) (o:=valueAt vs k) (by rw [l]; exact rel.val k)
   exact wpAny_getItem_of (sR ry) dd.mapOf hw (h w' _ (I.tok _) rw')
 · subst ey
   cases (show u=Value.ref b from ry)
   obtain ⟨z,hd,xs,rel,dd⟩:=sT I.hok e
   obtain ⟨w',hw,rw'⟩:=RelO.some_of (v:=v) (o:=(atKey xs k).map (·.2)) (by rw [l]; exact rel.val k)
   obtain ⟨p,hp,hp2⟩:=Option.map_eq_some_iff.mp hw
   refine wpAny_getItem_heap (tupleKind_room_in1 hu) (kR I.hok eb) dd hp ?_
   rw [hp2]
   exact h w' _ (I.tok _) rw'
theorem gY {h':Heap} {t':Nat} {ob:HO} (I:Inv X pins σ H s) (mu:Mut (H a)) (hs:Heap.SameBut a s.heap h') (he:∃ q,h'.get? a=some q) (new:ObjOk X.prog X.w (upd H a ob) h' a ob) :
   Inv X pins σ (upd H a ob) { s with heap:=h',toks:=t' }:=
 I.write (x:=a) (e:=a) mu (.inl rfl) (fun b q hb z=>(hs.2 b hb).trans z) he new
theorem Aw {P:Program} {w:World} {H':Hp} {h':Heap} {kvs:List (Key × V)} {vs:List (Key × Value)} (z:kvs.length<=sizeLine) (hd:(a == sysModules)=false) (rel:KV kvs vs) (dd:h'.DictOf (aI P w) a vs) :
   ObjOk P w H' h' a (.dK kvs):=⟨z,hd,vs,rel,dd⟩
theorem jH {H':Hp} {Q:Unit->Shared->Prop} (hu:A.units+1 < cLine) (I:Inv X pins σ H s) (g:DPut H a y v H') (ry:RelV y u) (rv:RelV v r) (h:∀ s',Inv X pins σ H' s'->Q () s') :
   wpAny (model X.prog X.w) A (setItem (.ref a) u r) Q E s:=by
 rcases g with ⟨kvs,k,e,ey,l,eH⟩ | ⟨kvs,k,b,e,ey,eb,l,eH⟩
 · subst ey eH
   obtain ⟨z,hd,vs,rel,dd⟩:=CM I.hok e
   have hz:vs.length<=sizeLine:=by rw [<- rel.length]; exact z
   have hl:(db kvs k v).length<=sizeLine:=by have:=gL kvs k v; omega
   refine wpAny_setItem_pairs (hsz:=hz) (sR ry) dd fun h' dd' hs=>h _ ?_
   have he:∃ q,h'.get? a=some q:=let ⟨q,_,_,hq,_⟩:=dd'; ⟨q,hq⟩
   exact gY I (by rw [e]; exact True.intro) hs he (Aw hl hd (rel.put k rv) dd')
 · subst ey eH
   cases (show u=Value.ref b from ry)
   obtain ⟨z,hd,xs,rel,dd⟩:=sU I.hok e
   have hz:xs.length<=sizeLine:=by rw [<- Paired.length rel]; exact z
   have hl:(db kvs k v).length<=sizeLine:=by have:=gL kvs k v; omega
   refine wpAny_setItem_heap (hsz:=hz) (tupleKind_room_in1 hu) (kR I.hok eb) dd fun h' dd' hs=>h _ ?_
   obtain ⟨q,es,ep,hq,h2,h3,h4,_,h5⟩:=dd'
   refine gY I (by rw [e]; exact True.intro) hs ⟨q,hq⟩ ⟨hl,hd,_,(rel.put k eb rv).keeps fun c ys ec=>?_,q,es,ep,hq,h2,h3,h4,h5⟩
   rw [au (Ck ec e (fun z=>nomatch z))]
   exact ec
end
theorem ml {X:Cx} {pins:List (Addr × Obj)} {σ:St} {H:Hp} {s:Shared} {a:Addr} {y:V} {o:Option V} (I:Inv X pins σ H s) (g:Av H a y o):s.TypeIs (.ref a) "dict":=by
 rcases g with ⟨kvs,k,e,_,_⟩ | ⟨kvs,k,b,e,_,_,_⟩
 · obtain ⟨_,_,vs,_,dd⟩:=sS I.hok e
   exact dd.typeIs
 · obtain ⟨_,_,xs,_,dd⟩:=sT I.hok e
   exact dd.typeIs
theorem sV {P:Program} {w:World} {H:Hp} (h:Heap) (hb:sysModules < h.objs.size):ObjOk P w H (h.push { cls:=.type "dict",data:=.dict #[] }) h.objs.size (.dK []):=
 ⟨Z30 _,beq_eq_false_iff_ne.mpr (Ne.symm (Z26 hb)),[],.nil,Heap.DictOf.new h⟩
theorem sW {P:Program} {w:World} {H:Hp} (h:Heap) (hb:sysModules < h.objs.size):ObjOk P w H (h.push { cls:=.type "dict",data:=.dict #[] }) h.objs.size (.dT []):=
 ⟨Z30 _,beq_eq_false_iff_ne.mpr (Ne.symm (Z26 hb)),[],.nil,_,#[],0,Z20 _ rfl,⟨rfl,rfl,rfl⟩,rfl,rfl,List.nodup_nil⟩
noncomputable def sX:TE:=fun _ H Q=>∀ p,H p=none->Q (.ref p) (upd H p (.dK []))
noncomputable def sY:TE:=fun _ H Q=>∀ p,H p=none->Q (.ref p) (upd H p (.dT []))
section
variable {X:Cx} {pos:Pos}
theorem sZ:PE X (.Dict [] [] pos) sX:=fun pins s σ H Q I h=>
 wpAny_Dict_empty ⟨.ref s.heap.objs.size,_,I.laid (a:=s.heap.objs.size) (o:=.dK []) (t':=s.toks) (fun _ _ q=>Z7 _ q) (Z10 _) (sV s.heap I.big),rfl,h _ (I.hok.fresh (Z10 _))⟩
theorem s9:PE X (.Dict [] [] pos) sY:=fun pins s σ H Q I h=>
 wpAny_Dict_empty ⟨.ref s.heap.objs.size,_,I.laid (a:=s.heap.objs.size) (o:=.dT []) (t':=s.toks) (fun _ _ q=>Z7 _ q) (Z10 _) (sW s.heap I.big),rfl,h _ (I.hok.fresh (Z10 _))⟩
end
noncomputable def tf:List (TE × TE)->St->Hp->(List (V × V)->Hp->Prop)->Prop
 | [],_,H,Q=>Q [] H
 | (tk,tv)::r,σ,H,Q=>tk σ H fun x H1=>tv σ H1 fun y H2=>tf r σ H2 fun ps H3=>Q ((x,y)::ps) H3
noncomputable abbrev VV:List (V × V)->List (Value × Value)->Prop:=Paired fun p q=>RelV p.1 q.1/\RelV p.2 q.2
noncomputable def PPs (X:Cx) (pos:Pos) (keys:List (Option Expr)) (values:List Expr) (trs:List (TE × TE)):Prop:=
 ∀ (pins:List (Addr × Obj)) (s:Shared) (σ:St) (H:Hp) (Q:List (V × V)->Hp->Prop),Inv X pins σ H s->tf trs σ H Q ->
   wpAny (model X.prog X.w) X.A (evalPairs (pairTrees keys values X.env pos)) (fun vs s'=>∃ ps H',Inv X pins σ H' s'/\VV ps vs/\Q ps H') X.xe s
theorem v8 {X:Cx} {pos:Pos}:PPs X pos [] [] []:=fun pins s σ H Q I h=>pairTrees_nil_walk ⟨[],H,I,.nil,h⟩
theorem tj {X:Cx} {pos:Pos} {k v:Expr} {ks:List (Option Expr)} {vs:List Expr} {tk tv:TE} {trs:List (TE × TE)} (hk:PE X k tk) (hv:PE X v tv) (hr:PPs X pos ks vs trs) :
   PPs X pos (some k::ks) (v::vs) ((tk,tv)::trs):=fun pins s σ H Q I h=>
 pairTrees_cons_walk (thn (hk pins s σ H _ I h) fun u s1 ⟨x,H1,I1,rx,q1⟩=>thn (hv pins s1 σ H1 _ I1 q1) fun w2 s2 ⟨y,H2,I2,ry,q2⟩=>
   thn (hr pins s2 σ H2 _ I2 q2) fun ws s3 ⟨ps,H3,I3,rel,q3⟩=>⟨(x,y)::ps,H3,I3,.cons ⟨rx,ry⟩ rel,q3⟩)
noncomputable def FpS (X:Cx) (pins:List (Addr × Obj)) (b:Addr):Prop:=
 b ≠ X.env.locals/\b ∉ X.fs/\(b ∈ X.ex∨X.s₀.heap.objs.size<=b)/\(∀ x c,X.env.cells.lookup x=some c->c ≠ b)/\∀ p ∈ X.pn++pins,p.1 ≠ b
noncomputable def be (its:List Value) (n:Nat):Obj:={ cls:=.type "list",data:=.seq its.toArray n }
inductive AccP (X:Cx) (pins:List (Addr × Obj)) (l:Addr) (Q:St->Hp->List V->Prop) (s':Shared):Prop
 | mk:∀ σ' H' acc its n,Inv X (pins++[(l,be its n)]) σ' H' s'->Vals acc its->acc.length<=sizeLine->Q σ' H' acc->AccP X pins l Q s'
noncomputable abbrev TB:=St->Hp->List V->(St->Hp->List V->Prop)->Prop
noncomputable def PB (X:Cx) (m:Value->Sem Unit) (tb:TB):Prop:=
 ∀ (pins:List (Addr × Obj)) (s:Shared) (σ:St) (H:Hp) (l:Addr) (acc:List V) (its:List Value) (n:Nat) (Q:St->Hp->List V->Prop),Inv X (pins++[(l,be its n)]) σ H s->FpS X pins l->Vals acc its->acc.length<=sizeLine->tb σ H acc Q ->
   wpAny (model X.prog X.w) X.A (m (.ref l)) (fun _ s'=>AccP X pins l Q s') X.xe s
noncomputable def mo (te:TE):TB:=fun σ H acc Q=>te σ H fun y H1=>acc.length < sizeLine/\Q σ H1 (acc++[y])
section
variable {X:Cx}
theorem Inv.accUpd {pins:List (Addr × Obj)} {s:Shared} {σ:St} {H:Hp} {l:Addr} {its its':List Value} {n n':Nat} {h':Heap} {t':Nat} (I:Inv X (pins++[(l,be its n)]) σ H s) (hl:FpS X pins l)
   (sb:Heap.SameBut l s.heap h') (e:h'.get? l=some (be its' n')):Inv X (pins++[(l,be its' n')]) σ H { s with heap:=h',toks:=t' }:=by
 obtain ⟨p1,p2,p3,p4,p5⟩:=I.pin (l,be its n) (by simp)
 have I0:Inv X pins σ H s:=I.unpinned
 have I1:Inv X pins σ H { s with heap:=h',toks:=t' }:=I0.turned (it:=l) (fun b o hb q=>(sb.2 b hb).trans q) p2 hl.1 hl.2.2.1 hl.2.2.2.1 hl.2.2.2.2
 refine I1.pins_of fun p hp=>?_
 rcases Z11.mp hp with hp | hp
 · exact I1.pin p (Z36 _ hp)
 · obtain rfl:p=(l,be its' n'):=by simpa using hp
   exact ⟨e,p2,hl.1,hl.2.1,fun v z=>by cases z⟩
theorem v9 {elt:Expr} {te:TE} (he:PE X elt te):PB X (fun a=>eval elt X.env >>= fun x=>call (.builtin "list.append") [a,x] >>= fun _=>pure ()) (mo te):=by
 intro pins s σ H l acc its n Q I hl rv hz h
 refine Z55 (thn (he _ s σ H _ I h) fun u s1 ⟨y,H1,I1,r1,hz1,q1⟩=>?_)
 obtain ⟨p1,_⟩:=I1.pin (l,be its n) (by simp)
 refine Z55 (wpAny_list_append_plain (items:=its.toArray) ⟨n,p1⟩ (fun h' ⟨n',e'⟩ sb=>Z56 ?_) ?_)
 · have e2:h'.get? l=some (be (its++[u]) n'):=by rw [e']; simp [be]
   exact ⟨σ,H1,acc++[y],its++[u],n',I1.accUpd (t':=s1.toks) hl sb e2,rv.append (.cons r1 .nil),by rw [Z17]; exact hz1,q1⟩
 · have:=rv.length
   simp; lia
noncomputable def PIf (X:Cx) (ifs:List Expr) (tt:TT):Prop:=
 ∀ (pins:List (Addr × Obj)) (s:Shared) (σ:St) (H:Hp) (Q:Bool->Hp->Prop),Inv X pins σ H s->tt σ H Q ->
   wpAny (model X.prog X.w) X.A (forIn ifs true fun c r=>if r=true then do let ok <- isTrue c X.env (eval c X.env); pure (ForInStep.yield ok) else pure (ForInStep.yield r)) (TP X pins σ Q) X.xe s
theorem wc {c:Expr} {tt:TT} (h:PT X c tt):PIf X [c] tt:=fun pins s σ H Q I hq=>wpAny_tests_one (h pins s σ H Q I hq)
theorem Ax {α:Type} {a b c d:List α} {p:α} (h:p ∈ (a++b)++c):p ∈ d++((a++c)++b):=by
 simp only [Z11] at h ⊢
 rcases h with (h | h) | h
 · exact .inr (.inl (.inl h))
 · exact .inr (.inr h)
 · exact .inr (.inl (.inr h))
theorem Ay {α:Type} {a b c d:List α} {p:α} (h:p ∈ a++c):p ∈ d++((a++b)++c):=by
 simp only [Z11] at h ⊢
 rcases h with h | h
 · exact .inr (.inl (.inl h))
 · exact .inr (.inr h)
noncomputable def lpW (g:TG) (tt:TT) (tb:TB) (J:It):TB:=fun σ H acc Q=>∃ W:Nat->Nat->St->Hp->List V->Prop,(∃ m,W 0 m σ H acc)/\∀ i m σ H acc,W i m σ H acc ->
 (J.stop i H/\Q σ H acc)∨(J.go i H/\∃ N:St->Hp->List V->Prop,(∀ σ' H' acc',N σ' H' acc'->∃ m',m' < m/\W (i+1) m' σ' H' acc') /\
   ∀ x H',J.yld i H x H'->g x σ H' fun σ2 H2=>tt σ2 H2 fun b H3=>if b=true then tb σ2 H3 acc N else N σ2 H3 acc)
noncomputable def yW (tg iter:Expr) (ifs:List Expr) (env:Env) (m:Sem Unit) (c:Code) (it:Value):Sem PySem.Fin:=do
 standAt iter.pos
 match <- pyNext it with
 | none=>pure (.done .next)
 | some v=>
   letOwnedTupleGo tg it v
   assign tg env v
   let mut ok:=true
   for c in ifs do
     if ok then ok <- isTrue c env (eval c env)
   if ok then m
   again c
inductive LpI (X:Cx) (pins:List (Addr × Obj)) (l:Addr) (fp:List Addr) (tn:Nat->Heap->Prop) (W:Nat->Nat->St->Hp->List V->Prop) (k:Nat) (s':Shared):Prop
 | mk:∀ i σ' H' acc' its' n',Inv X (pins++[(l,be its' n')]) σ' H' s'->Vals acc' its'->acc'.length<=sizeLine->tn i s'.heap->(∀ b ∈ fp,H' b=none)->W i k σ' H' acc'->LpI X pins l fp tn W k s'
theorem tm {tg iter:Expr} {ifs:List Expr} {g:TG} {tt:TT} {tb:TB} {m:Value->Sem Unit} {c:Value->Value->Code} (hx:X.xe=fun _ _=>False) (hcalm:X.calm=true) (hg:PG X tg g) (ht:PIf X ifs tt) (hb:PB X m tb)
   (hq:∀ it acc,(c it acc).quiet=true) (hA:∀ it acc,X.A.under (c it acc)=X.A) (hd:∀ it acc,∃ f,(model X.prog X.w).den (c it acc)=(yW tg iter ifs X.env (m acc) (c it acc) it).onRaise f)
   {pins:List (Addr × Obj)} {s:Shared} {σ:St} {H:Hp} {l:Addr} {acc:List V} {its:List Value} {n:Nat} {Q:St->Hp->List V->Prop} {it:Addr} {fp:List Addr} {tn:Nat->Heap->Prop} {J:It}
   (I:Inv X (pins++[(l,be its n)]) σ H s) (hl:FpS X pins l) (rv:Vals acc its) (hz:acc.length<=sizeLine) (T:Turn X.prog X.w X.K tg J fp it tn) (st:tn 0 s.heap) (hf:∀ b ∈ fp,eO X (pins++[(l,be its n)]) H b)
   (h:lpW g tt tb J σ H acc Q):codeAny (model X.prog X.w) X.A (c (.ref it) (.ref l)) (fun r s'=>r=.ok .next/\AccP X pins l Q s') s:=by
 obtain ⟨W,⟨m0,w0⟩,turn⟩:=h
 have hlf:l ∉ fp:=fun z=>(hf l z).2.2.2.2.2 (l,be its n) (by simp) rfl
 have fpS:∀ b ∈ fp,FpS X pins b:=fun b hb=>by
   obtain ⟨f0,f1,f2,f3,f4,f5⟩:=hf b hb
   exact ⟨f1,f2,f3,f4,fun p hp=>f5 p (by rcases Z11.mp hp with z | z <;> simp [z])⟩
 have stat:∀ {H':Hp} {its':List Value} {n':Nat},(∀ b ∈ fp,H' b=none)->∀ b ∈ fp,eO X (pins++[(l,be its' n')]) H' b:=fun {H' its' n'} hn b hb=>by
   obtain ⟨f1,f2,f3,f4,f5⟩:=fpS b hb
   refine ⟨hn b hb,f1,f2,f3,f4,fun p hp=>?_⟩
   rcases Z11.mp hp with z | z
   · exact f5 p (by simp [z])
   · rcases Z11.mp z with z | z
     · exact f5 p (by simp [z])
     · obtain rfl:p=(l,be its' n'):=by simpa using z
       exact fun e=>hlf (by rw [show l=b from e]; exact hb)
 refine codeAny_loop (hq _ _) (fun k s'=>LpI X pins l fp tn W k s') ?_ m0
   ⟨0,σ,H,acc,its,n,I,rv,hz,st,fun b hb=>(hf b hb).1,w0⟩
 rintro k s3 ⟨i,σ3,H3,acc3,its3,n3,I3,rv3,hz3,st3,fr3,w3⟩
 rw [hA]
 obtain ⟨f,hf⟩:=hd (.ref it) (.ref l)
 rw [hf]
 refine wpAny_onRaise (wpAny_mono (E:=fun _ _=>False) ?_ (fun _ _ q=>q) fun _ _ z=>z.elim)
 unfold yW
 refine Z55 (wpAny_standAt (Z55 ?_))
 have hxe:∀ {α:Type} {t:Sem α} {Q':α->Shared->Prop} {s':Shared},wpAny (model X.prog X.w) X.A t Q' X.xe s'->wpAny (model X.prog X.w) X.A t Q' (fun _ _=>False) s':=fun h=>by rw [hx] at h; exact h
 rcases turn i k σ3 H3 acc3 w3 with ⟨stop,qn⟩ | ⟨go,N,hN,step⟩
 · refine thn (T.done X rfl rfl rfl hcalm i _ s3 σ3 H3 _ I3 (stat fr3) st3 stop) fun r s4 ⟨hr,I4⟩=>?_
   subst hr
   exact Z56 ⟨rfl,σ3,H3,acc3,its3,n3,I4,rv3,hz3,qn⟩
 · refine thn (T.item X rfl rfl rfl hcalm i _ s3 σ3 H3 _ I3 (stat fr3) st3 go) fun r s4 ⟨u,hr,h4⟩=>?_
   subst hr
   refine Z55 (thn h4 fun _ s5 ⟨x,H5,I5,r5,y5,st5,fr5⟩=>?_)
   have ob:=T.obj _ _ st5
   have I5':Inv X ((pins++eP fp s5.heap)++[(l,be its3 n3)]) σ3 H5 s5:=by
     have J5:=I5.pinned (stat fr5) ob
     refine J5.pins_of fun p hp=>J5.pin p ?_
     exact Ax hp
   have hlp:FpS X (pins++eP fp s5.heap) l:=by
     obtain ⟨f1,f2,f3,f4,f5⟩:=hl
     refine ⟨f1,f2,f3,f4,fun p hp=>?_⟩
     simp only [Z11] at hp
     rcases hp with z | z | z
     · exact f5 p (by simp [z])
     · exact f5 p (by simp [z])
     · exact fun e=>hlf (e ▸ (jA z).1)
   refine Z55 (thn (hxe (hg _ s5 σ3 H5 x u _ I5' r5 (step x H5 y5))) fun _ s6 ⟨σ6,H6,I6,q6⟩=>?_)
   refine Z55 (thn (hxe (ht _ s6 σ6 H6 _ I6 q6)) fun ok s7 ⟨H7,I7,q7⟩=>?_)
   have again:∀ {s8:Shared} {σ8:St} {H8:Hp} {acc8:List V} {its8:List Value} {n8:Nat},Inv X ((pins++eP fp s5.heap)++[(l,be its8 n8)]) σ8 H8 s8->Vals acc8 its8->acc8.length<=sizeLine->N σ8 H8 acc8 ->
       ∃ m,m < k/\LpI X pins l fp tn W m s8:=fun {s8 σ8 H8 acc8 its8 n8} I8 rv8 hz8 n8'=>by
     obtain ⟨m',hm,w8⟩:=hN σ8 H8 acc8 n8'
     have pinOf:∀ b o,b ∈ fp->s5.heap.get? b=some o->s8.heap.get? b=some o/\H8 b=none:=fun b o hb e=>by
       have z:=I8.pin (b,o) (by simp only [Z11]; exact .inr (.inl (.inr (eQ hb e))))
       exact ⟨z.1,z.2.1⟩
     refine ⟨m',hm,i+1,σ8,H8,acc8,its8,n8,I8.pins_of fun p hp=>I8.pin p ?_,rv8,hz8,T.keep _ _ _ st5 fun b hb o e=>(pinOf b o hb e).1,fun b hb=>?_,w8⟩
     · exact Ay hp
     · obtain ⟨o,e,d⟩:=ob b hb
       exact (pinOf b o hb e).2
   cases ok with
   | false=>
     refine Z55 (Z56 (Z56 ?_))
     exact ⟨rfl,again I7 rv3 hz3 q7⟩
   | true=>
     refine Z55 (thn (hxe (hb _ s7 σ6 H7 l acc3 its3 n3 N I7 hlp rv3 hz3 q7)) fun _ s8 ⟨σ8,H8,acc8,its8,n8,I8,rv8,hz8,q8⟩=>Z56 ?_)
     exact ⟨rfl,again I8 rv8 hz8 q8⟩
end
noncomputable def cA (cells:List (Str × Addr)):List (Str × NameKind)->List (Str × Addr)->List (Str × Addr)
 | [],cs=>cs
 | (n,k)::r,cs=>cA cells r (if k == .free then (match cells.lookup n with | some c=>(n,c)::cs | none=>cs) else cs)
theorem ce {cells:List (Str × Addr)} {x:Str} {c:Addr}:∀ {ns:List (Str × NameKind)} {cs:List (Str × Addr)},(∀ y d,cs.lookup y=some d->cells.lookup y=some d)->(cA cells ns cs).lookup x=some c->cells.lookup x=some c
 | [],cs,h,e=>h x c e
 | (n,k)::r,cs,h,e=>by
   unfold cA at e
   refine ce (ns:=r) (cs:=_) ?_ e
   intro y d hy
   split at hy
   · cases q:cells.lookup n with
     | none=>rw [q] at hy; exact h y d hy
     | some c'=>
       rw [q] at hy
       simp only [List.lookup_cons] at hy
       split at hy
       · rename_i heq
         have e1:y=n:=by simpa using heq
         cases hy
         rw [e1]; exact q
       · exact h y d hy
   · exact h y d hy
theorem iz {cells:List (Str × Addr)} {x:Str}:∀ {ns:List (Str × NameKind)} {cs:List (Str × Addr)},(∃ c,cs.lookup x=some c)->∃ c,(cA cells ns cs).lookup x=some c
 | [],cs,h=>h
 | (n,k)::r,cs,h=>by
   unfold cA
   refine iz (ns:=r) ?_
   split
   · cases q:cells.lookup n with
     | none=>exact h
     | some c'=>
       simp only [List.lookup_cons]
       split
       · exact ⟨_,rfl⟩
       · exact h
   · exact h
theorem fZ {cells:List (Str × Addr)} {x:Str} {c:Addr} (hc:cells.lookup x=some c):∀ {ns:List (Str × NameKind)} {cs:List (Str × Addr)},(x,NameKind.free) ∈ ns->∃ c,(cA cells ns cs).lookup x=some c
 | [],cs,h=>by cases h
 | (n,k)::r,cs,h=>by
   unfold cA
   rcases Z19.mp h with e | h
   · cases e
     refine iz ?_
     rw [hc]
     simp
   · exact fZ hc h
theorem jo {scope:Scope} {env:Env} (h:∀ y ∈ scope.names,y.2=.free->∃ c,env.cells.lookup y.1=some c):closureFor scope env=pure (cA env.cells scope.names []):=by
 have go:∀ (ns:List (Str × NameKind)) (cs:List (Str × Addr)),(∀ y ∈ ns,y.2=.free->∃ c,env.cells.lookup y.1=some c) ->
     (forIn ns cs fun (x:Str × NameKind) r=>match x with | (name,kind)=>if (kind == .free)=true then do let a <- cellOf env name; pure (ForInStep.yield ((name,a)::r)) else pure (ForInStep.yield r):Sem _)=pure (cA env.cells ns cs):=by
   intro ns
   induction ns with
   | nil=>intro cs _; rfl
   | cons x r ih=>
     intro cs hh
     obtain ⟨n,k⟩:=x
     rw [List.forIn_cons]
     by_cases hk:(k == NameKind.free)=true
     · have hk':k=.free:=by simpa using hk
       obtain ⟨c,hc⟩:=hh (n,k) Z16 hk'
       have e1:cellOf env n=pure c:=by unfold cellOf; rw [show env.cells.lookup n=some c from hc]
       show (if (k == NameKind.free)=true then _ else _) >>= _=_
       rw [if_pos hk,e1]
       refine Eq.trans (ih ((n,c)::cs) fun y hy=>hh y (Z8 _ hy)) ?_
       conv=>rhs; unfold cA
       rw [if_pos hk,show env.cells.lookup n=some c from hc]
     · show (if (k == NameKind.free)=true then _ else _) >>= _=_
       rw [if_neg hk]
       refine Eq.trans (ih cs fun y hy=>hh y (Z8 _ hy)) ?_
       conv=>rhs; unfold cA
       rw [if_neg hk]
 unfold closureFor
 have:=go scope.names [] h
 refine Eq.trans (congrArg (fun m=>m >>= fun cs=>pure cs) this) rfl
noncomputable def aE (X:Cx) (scope:Scope) (ts:List Str) (ix:List Nat) (C:Addr) (s2:Shared) (H2:Hp) (fp:List Addr):Cx where
 prog:=X.prog
 w:=X.w
 K:=X.K
 mg:=X.mg
 base:=X.base
 A:=X.A
 N:=ts++ix.map fun j=>X.N.getD j Str.empty
 s₀:=s2
 H₀:=H2
 env:=compEnvC scope (cA X.env.cells scope.names []) C X.env
 outer:=X.stack
 stack:=X.stack
 ex:=fp
 fn:=fun _=>false
 calm:=X.calm
 pn:=[]
 xe:=fun _ _=>False
noncomputable def cst (nt:Nat) (ix:List Nat) (σ:St):St:=List.replicate nt none++ix.map fun j=>σ.getD j none
structure CompScope (X:Cx) (scope:Scope) (ts:List Str) (ix:List Nat):Prop where
 kind:scope.kind=.function
 nocell:(scope.names.all fun y=>y.2 != .cell)=true
 names:(scope.names.all fun y=>y.2 != .local || scope.names.lookup y.1 == some .local)=true
 free:(scope.names.all fun y=>y.2 != .free || (X.env.kindOf y.1 == some .cell || X.env.kindOf y.1 == some .free))=true
 caps:(ix.all fun j=>decide (j < X.N.length) && (scope.names.lookup (X.N.getD j Str.empty) == some .free))=true
theorem bG {env:Env}:∀ {names:List (Str × NameKind)} {x:Str},names.lookup x=some .free ->
   (names.map fun (n,k)=>if (k == NameKind.free && env.scope.kind == .function && env.kindOf n == some .cell) then (n,NameKind.cell) else (n,k)).lookup x=some .cell ∨
   (names.map fun (n,k)=>if (k == NameKind.free && env.scope.kind == .function && env.kindOf n == some .cell) then (n,NameKind.cell) else (n,k)).lookup x=some .free
 | [],_,h=>by simp at h
 | (n,k)::r,x,h=>by
   have ih:=@bG env r x
   rw [Z6]
   show List.lookup x ((if (k == NameKind.free && env.scope.kind == .function && env.kindOf n == some .cell)=true then (n,NameKind.cell) else (n,k))::_)=_∨List.lookup x ((if (k == NameKind.free && env.scope.kind == .function && env.kindOf n == some .cell)=true then (n,NameKind.cell) else (n,k))::_)=_
   cases hx:x == n with
   | true=>
     simp only [List.lookup_cons,hx] at h
     cases h
     split <;> simp [List.lookup_cons,hx]
   | false=>
     simp only [List.lookup_cons,hx] at h
     split <;> (simp only [List.lookup_cons,hx]; exact ih h)
theorem bH {env:Env}:∀ {names:List (Str × NameKind)} {x:Str},(∀ y ∈ names,y.2 ≠ .cell) ->
   ((names.map fun (n,k)=>if (k == NameKind.free && env.scope.kind == .function && env.kindOf n == some .cell) then (n,NameKind.cell) else (n,k)).lookup x=some .cell ∨
   (names.map fun (n,k)=>if (k == NameKind.free && env.scope.kind == .function && env.kindOf n == some .cell) then (n,NameKind.cell) else (n,k)).lookup x=some .free)->(x,NameKind.free) ∈ names
 | [],_,_,h=>by simp at h
 | (n,k)::r,x,hn,h=>by
   have ih:=@bH env r x fun y hy=>hn y (Z8 _ hy)
   have hk:=hn (n,k) Z16
   rw [Z6] at h
   change List.lookup x ((if (k == NameKind.free && env.scope.kind == .function && env.kindOf n == some .cell)=true then (n,NameKind.cell) else (n,k))::_)=_∨List.lookup x ((if (k == NameKind.free && env.scope.kind == .function && env.kindOf n == some .cell)=true then (n,NameKind.cell) else (n,k))::_)=_ at h
   cases hx:x == n with
   | true=>
     have e:x=n:=by simpa using hx
     subst e
     have kf:k=.free:=by
       split at h
       · rename_i hc
         simp only [Z25,beq_iff_eq] at hc
         exact hc.1.1
       · simp only [List.lookup_cons,hx] at h
         rcases h with h | h
         · cases h; exact absurd rfl hk
         · cases h; rfl
     rw [kf]; exact Z16
   | false=>
     refine Z8 _ (ih ?_)
     split at h <;> (simp only [List.lookup_cons,hx] at h; exact h)
theorem iA {α:Type}:∀ {l:List (Str × α)} {x:Str} {a:α},l.lookup x=some a->(x,a) ∈ l:=fun h=>PySem.mem_of_lookup h
section
variable {X:Cx} {pins:List (Addr × Obj)} {σ:St} {H:Hp} {s:Shared} {scope:Scope} {ts:List Str} {ix:List Nat}
theorem nZ {l C:Addr} {fp:List Addr} {h4:Heap} {tk:Nat} (I:Inv X pins σ H s) (S:CompScope X scope ts ix) (hcalm:X.calm=true)
   (hf:∀ b ∈ fp,eO X pins H b) (ho:∀ b ∈ fp,∃ o,s.heap.get? b=some o) (keep:∀ b o,s.heap.get? b=some o->h4.get? b=some o) (hl:h4.get? l=some (be [] 0)) (hls:s.heap.objs.size<=l) (hC:s.heap.objs.size<=C) (hlC:l ≠ C)
   (ns:h4.Ns C fun _=>none):Inv (aE X scope ts ix C s H fp) ([]++[(l,be [] 0)]) (cst ts.length ix σ) H { s with heap:=h4,toks:=tk }:=by
 have nocell:∀ y ∈ scope.names,y.2 ≠ .cell:=fun y hy=>by simpa using Z50.mp S.nocell y hy
 have cl_in:∀ {x c},(cA X.env.cells scope.names []).lookup x=some c->X.env.cells.lookup x=some c:=fun {x c} e=>ce (fun y d z=>by simp at z) e
 have fre:∀ y ∈ scope.names,y.2=.free->X.env.kindOf y.1=some .cell∨X.env.kindOf y.1=some .free:=fun y hy e=>by
   have:=Z50.mp S.free y hy
   simpa [e] using this
 have fpsz:∀ b ∈ fp,b < s.heap.objs.size:=fun b hb=>let ⟨o,e⟩:=ho b hb; Z13 e
 have freshH:∀ b,s.heap.objs.size<=b->H b=none:=fun b hb=>I.hok.fresh hb
 have ok':(aE X scope ts ix C s H fp).Ok:=by
   refine ⟨I.ok.mod,S.kind,I.ok.glob,I.ok.blt,hC,fun x y c h1 h2=>I.ok.inj x y c (cl_in h1) (cl_in h2),fun x hx=>?_,fun x c z=>(by cases z),I.ok.hd,I.ok.frames,.inl rfl,fun b hb=>⟨?_,fun x c e=>?_⟩,I.bs,Z24 I.ok.bsz I.sz,fun b o e hb=>?_,fun b hb hs=>?_,I.stack,I.stkFree⟩
   · have hm:=bH nocell hx
     obtain ⟨c,hc⟩:=I.ok.has x (fre _ hm rfl)
     exact fZ hc hm
   · exact Z26 (Z15 (fpsz b hb) hC)
   · exact (hf b hb).2.2.2.2.1 x c (cl_in e)
   · rcases (hf b hb).2.2.2.1 with z | z
     · exact I.ok.noex b o e z
     · exact absurd (Z15 (Z13 e) (Z24 I.ok.bsz z)) (Z33 _)
   · rcases Z19.mp (I.stkSub b hs) with z | z
     · exact (hf b hb).2.1 z
     · exact (hf b hb).2.2.1 z
 refine ⟨ok',rfl,I.bare,Un.kept keep,⟨_,ns,fun i x v e1 e2 e3=>?_⟩,fun x c e=>?_,freshH C hC,fun x c e=>I.freeC x c (cl_in e),fun p hp=>?_,I.hok.kept keep,?_⟩
 · -- a captured name
   have e2':(List.replicate ts.length (none:Option V)++ix.map fun j=>σ.getD j none)[i]?=some (some v):=e2
   have e1':(ts++ix.map fun j=>X.N.getD j Str.empty)[i]?=some x:=e1
   by_cases hi:i < ts.length
   · rw [List.getElem?_append_left (by simpa using hi)] at e2'
     rw [List.getElem?_replicate] at e2'
     rw [if_pos hi] at e2'
     cases e2'
   · rw [List.getElem?_append_right (by simpa using hi),List.length_replicate,Z21] at e2'
     rw [List.getElem?_append_right (by lia),Z21] at e1'
     cases hj:ix[i - ts.length]? with
     | none=>rw [hj] at e1'; cases e1'
     | some j=>
       rw [hj] at e1' e2'
       have e1'':X.N.getD j Str.empty=x:=Z27 e1'
       have e2'':σ.getD j none=some v:=Z27 e2'
       have hcap:=Z50.mp S.caps j (List.mem_of_getElem? hj)
       simp only [Z25,decide_eq_true_eq,beq_iff_eq] at hcap
       obtain ⟨hjl,hfree⟩:=hcap
       rw [e1''] at hfree
       have eN:X.N[j]?=some x:=by rw [<- e1'']; simp [Z5,hjl]
       have eσ:σ[j]?=some (some v):=by
         rw [Z5] at e2''
         cases q:σ[j]? with
         | none=>rw [q] at e2''; cases e2''
         | some z=>rw [q] at e2''; exact congrArg some e2''
       have hm:=iA hfree
       have hk:=fre _ hm rfl
       obtain ⟨m,hn,hlk⟩:=I.loc
       obtain ⟨u,r,lk⟩:=hlk j x v eN eσ (hk.elim (fun z=>.inr (.inl z)) fun z=>.inr (.inr z))
       refine ⟨u,r,.inr ⟨bG hfree,?_⟩⟩
       rcases lk with ⟨z,_⟩ | ⟨_,c,hc,cell⟩
       · rcases hk with k | k <;> · rw [show X.env.kindOf x=some .local from z] at k; cases k
       · obtain ⟨c',hc'⟩:=fZ (cs:=[]) hc hm
         have:c'=c:=Z27 ((cl_in hc').symm.trans hc)
         subst this
         obtain ⟨o,eo,d⟩:=cell
         exact ⟨c',hc',o,keep _ _ eo,d⟩
 · obtain ⟨v,o,eo,d⟩:=I.cell x c (cl_in e)
   exact ⟨v,o,keep _ _ eo,d⟩
 · obtain rfl:p=(l,be [] 0):=by simpa [aE] using hp
   refine ⟨hl,freshH l hls,hlC,fun z=>?_,fun v z=>by cases z⟩
   rcases Z19.mp (I.stkSub l z) with e | e
   · exact absurd (Z15 I.lt hls) (by rw [e]; exact Z33 _)
   · exact I.nofs hls e
 · show (List.replicate ts.length none++ix.map _).length=(ts++ix.map _).length
   simp
theorem tq {l C:Addr} {fp:List Addr} {s':Shared} {h':Heap} {σ':St} {H':Hp} {acc:List V} {its:List Value} {n:Nat} (I:Inv X pins σ H s) (hf:∀ b ∈ fp,eO X pins H b) (hls:s.heap.objs.size<=l) (hC:s.heap.objs.size<=C)
   (J:Inv (aE X scope ts ix C s H fp) ([]++[(l,be its n)]) σ' H' s') (rv:Vals acc its) (hz:acc.length<=sizeLine) (sb:∀ b,b ≠ C->h'.get? b=s'.heap.get? b) :
   Inv X pins σ (upd H' l (.lst acc)) { s' with heap:=h' }:=by
 obtain ⟨p1,p2,p3,p4,p5⟩:=J.pin (l,be its n) (by simp)
 have p1:s'.heap.get? l=some (be its n):=p1
 have p2:H' l=none:=p2
 have p3:l ≠ C:=p3
 have fC:H' C=none:=J.free
 have Hl:H l=none:=I.hok.fresh hls
 have old:∀ {b o},s.heap.get? b=some o->b ≠ C/\b ≠ l:=fun {b o} e=>⟨Z26 (Z15 (Z13 e) hC),Z26 (Z15 (Z13 e) hls)⟩
 have B:Un (frs X.stack) fp H H' s.heap s'.heap:=J.base
 refine I.call' (s':={ s' with heap:=h' }) (ch:=fp) J.os ⟨fun b o e n hb hx=>?_,fun b o e n hb hx=>?_,fun b o e n hx=>?_,fun b o e hx=>?_,fun b xs e=>?_,fun b o xs e=>?_,fun b ps e=>?_⟩ (fun b u e=>?_) J.bare fun b hb=>?_
 · exact (sb b (old e).1).trans (B.keep b o e n hb hx)
 · obtain ⟨sl,q⟩:=B.slot b o e n hb hx
   exact ⟨sl,(sb b (old e).1).trans q⟩
 · rw [au (old e).2]; exact B.free b o e n hx
 · obtain ⟨o',q⟩:=B.there b o e hx
   exact ⟨o',(sb b (old e).1).trans q⟩
 · have q:=B.tups b xs e
   rw [au (aw q p2)]; exact q
 · have q:=B.frzs b o xs e
   rw [au (aw q p2)]; exact q
 · obtain ⟨m,q⟩:=B.tbls b ps e
   exact ⟨m,by rw [au (aw q p2)]; exact q⟩
 · by_cases hb:b=l
   · subst hb
     rw [ar] at e
     cases e
     exact ⟨hz,its,n,rv,(sb b p3).trans p1⟩
   · rw [au hb] at e
     refine (J.hok b u e).stay (fun c v hc q=>(sb c ?_).trans q) (fun c q=>by rw [au (aw q p2)]; exact q) fun c xs q=>by rw [au (aw q p2)]; exact q
     rcases hc with rfl | hc
     · exact aw e fC
     · exact aw hc fC
 · obtain ⟨f0,f1,f2,f3,f4,f5⟩:=hf b hb
   exact ⟨f3,f1,f4,f5⟩
end
theorem jp {prog:Program} {w:World} {A:Around} {R:Result->Shared->Prop} {s:Shared} {elt:Expr} {gens:List Comprehension} {scope:Scope} {pos:Pos} {it acc:Value} {env:Env} {d:Nat} {g:Comprehension} (hg:gens[d]?=some g) (ha:g.is_async=0)
   (h0:codeAny (model prog w) A (.compLoop (.ListComp elt gens scope pos) d it acc env) R s)
   (h:wpAny (model prog w) A (pyIter it) (fun it' s'=>codeAny (model prog w) A (.compLoop (.ListComp elt gens scope pos) d it' acc env) R s')
     (notedBy (model prog w) A env fun x s'=>R (.error x) s') s) :
   codeAny (model prog w) A (.compStart (.ListComp elt gens scope pos) d it acc env) R s:=by
 refine codeAny_of_tree ?_
 show wpAny _ _ ((compStart (.ListComp elt gens scope pos) d it acc env).onRaise (fun x=>do noteFrame x env; standAt theWindowsPlace)) _ _ s
 refine wpAny_notedAt ?_
 have e:compStart (.ListComp elt gens scope pos) d it acc env=(do
     if (<- ask).params.followText "comprehension-iter-twice" then return <- again (.compLoop (.ListComp elt gens scope pos) d it acc env)
     rule "comprehension.iter-twice"
     standAt g.iter.pos
     again (.compLoop (.ListComp elt gens scope pos) d (<- pyIter it) acc env)):=by
   unfold compStart
   have e1:((clausesOf (.ListComp elt gens scope pos))[d]?).elim false (fun x=>x.is_async != 0)=false:=by
     show (gens[d]?).elim false _=false
     rw [hg]
     simp [ha]
   have e2:(clausesOf (.ListComp elt gens scope pos))[d]?=some g:=hg
   rw [e1,e2]
   rfl
 rw [e]
 show wpAny _ _ (ask >>= _) _ _ s
 refine Z55 (wpAny_askSetting (wpAny_ite ?_))
 split
 · first
     | exact Z55 (Z56 (Z56 (And.intro rfl h0)))
     | exact Z56 (And.intro rfl h0)
 · first
     | exact Z55 (wpAny_rule (Z55 (wpAny_standAt (Z55 (wpAny_mono h (fun it' s' h'=>Z56 (And.intro rfl h')) fun _ _ x=>x)))))
     | (refine Z55 (wpAny_rule ?_); show wpAny _ _ (standAt g.iter.pos >>= _) _ _ s; exact Z55 (wpAny_standAt (Z55 (wpAny_mono h (fun it' s' h'=>Z56 (And.intro rfl h')) fun _ _ x=>x))))
noncomputable def iB (nt:Nat) (ix:List Nat) (wi:TI) (lp:It->TB):TE:=fun σ H Q=>wi σ H fun J H1=>lp J (cst nt ix σ) H1 [] fun _ H2 acc=>∀ l,H2 l=none->Q (.ref l) (upd H2 l (.lst acc))
noncomputable def PLp (X:Cx) (scope:Scope) (ts:List Str) (ix:List Nat) (tg:Expr) (c:Env->Value->Value->Code) (lp:It->TB):Prop:=
 ∀ (C:Addr) (s2:Shared) (H2:Hp) (fp:List Addr) (pins:List (Addr × Obj)) (s:Shared) (σ:St) (H:Hp) (l:Addr) (acc:List V) (its:List Value) (n:Nat) (Q:St->Hp->List V->Prop) (it:Addr) (tn:Nat->Heap->Prop) (J:It) (fp':List Addr),
   Inv (aE X scope ts ix C s2 H2 fp) (pins++[(l,be its n)]) σ H s->FpS (aE X scope ts ix C s2 H2 fp) pins l->Vals acc its->acc.length<=sizeLine->Turn X.prog X.w X.K tg J fp' it tn->tn 0 s.heap->(∀ b ∈ fp',eO (aE X scope ts ix C s2 H2 fp) (pins++[(l,be its n)]) H b) ->
   lp J σ H acc Q->codeAny (model X.prog X.w) X.A (c (aE X scope ts ix C s2 H2 fp).env (.ref it) (.ref l)) (fun r s'=>r=.ok .next/\AccP (aE X scope ts ix C s2 H2 fp) pins l Q s') s
noncomputable def tz (X:Cx) (pins:List (Addr × Obj)) (σ:St) (Q:VK) (acc:Value) (C:Addr) (s':Shared):Prop:=
 ∃ l H',acc=.ref l/\(∃ m,s'.heap.Ns C m)/\H' C=none/\FpS X pins C/\Q (.ref l) H'/\∀ h':Heap,(∀ b,b ≠ C->h'.get? b=s'.heap.get? b)->Inv X pins σ H' { s' with heap:=h' }
section
variable {X:Cx} {tg iter elt:Expr} {ifs:List Expr} {gs:List Comprehension} {scope:Scope} {pos:Pos} {ts:List Str} {ix:List Nat} {wi:TI} {lp:It->TB}
theorem qF {use:Option (Value->Sem Unit)} {ps:Pos} {pins:List (Addr × Obj)} {s:Shared} {σ:St} {H:Hp} {Q:VK} {Q':Value->Shared->Prop} (hc:X.calm=true) (S:CompScope X scope ts ix) (hi:PI X tg iter wi)
   (hlp:PLp X scope ts ix tg (fun env it acc=>.compLoop (.ListComp elt (⟨tg,iter,ifs,0⟩::gs) scope pos) 0 it acc env) lp) (hs:∀ x,foldedSetIterable iter X.env x=pure x) (I:Inv X pins σ H s) (h:iB ts.length ix wi lp σ H Q)
   (fin:∀ acc C s',tz X pins σ Q acc C s'->compPost (model X.prog X.w) X.A X.xe use Q' acc C (.ok .next) s') :
   wpAny (model X.prog X.w) X.A (comprehension (.ListComp elt (⟨tg,iter,ifs,0⟩::gs) scope pos) scope X.env ps (newList []) false (eval iter X.env) use) Q' X.xe s:=by
 have nocell:∀ y ∈ scope.names,y.2 ≠ .cell:=fun y hy=>by simpa using Z50.mp S.nocell y hy
 have names:∀ y ∈ scope.names,y.2=.local->scope.names.lookup y.1=some .local:=fun y hy e=>by
   have:=Z50.mp S.names y hy
   simpa [e] using this
 have fre:∀ y ∈ scope.names,y.2=.free->∃ c,X.env.cells.lookup y.1=some c:=fun y hy e=>by
   have:=Z50.mp S.free y hy
   exact I.ok.has y.1 (by simpa [e] using this)
 refine wpAny_comprehension_free (g:=⟨tg,iter,ifs,0⟩) (gs:=gs) rfl hs (jo fre) S.kind names ?_
 refine thn (hi pins s σ H _ I h) fun xv s1 h1=>thn h1 fun itv s2 h2=>?_
 obtain ⟨it,fp,tn,J,H2,e,I2,T,st2,f2,q2⟩:=h2
 subst e
 refine wpAny_newObj_type (wpAny_newFunctionEnv nocell (by intro y hy; simp at hy) (fun h₁ hns₁ hsb₁=>?_) S.kind)
 dsimp only at hns₁ hsb₁ ⊢
 generalize hH2:s2.heap.push { cls:=.type "list",dict:=none,data:=.seq ([]:List Value).toArray }=G2 at hns₁ hsb₁ ⊢
 have hC:G2.objs.size=s2.heap.objs.size+1:=by rw [<- hH2,Heap.size_push]
 have hDC:s2.heap.objs.size ≠ G2.objs.size:=by rw [hC]; exact Z26 (Nat.lt_succ_self _)
 have hCle:s2.heap.objs.size<=G2.objs.size:=by rw [hC]; exact Nat.le_succ _
 have below:∀ b,b < s2.heap.objs.size->b ≠ G2.objs.size:=fun b hb=>by rw [hC]; exact Z26 (Nat.lt_succ_of_lt hb)
 have keep:∀ b o,s2.heap.get? b=some o->h₁.get? b=some o:=fun b o e=>hsb₁.extBut b o (below b (Z13 e)) (Z7 _ (hH2 ▸ Z7 _ e))
 have hl:h₁.get? s2.heap.objs.size=some (be [] 0):=hsb₁.extBut _ _ hDC (Z7 _ (hH2 ▸ Z20 _ rfl))
 have obf:∀ b ∈ fp,∃ o,s2.heap.get? b=some o:=fun b hb=>let ⟨o,e,_⟩:=T.obj _ _ st2 b hb; ⟨o,e⟩
 have ns:h₁.Ns G2.objs.size fun _=>none:=by simpa using hns₁
 have I4:Inv (aE X scope ts ix G2.objs.size s2 H2 fp) ([]++[(s2.heap.objs.size,be [] 0)]) (cst ts.length ix σ) H2 { s2 with heap:=h₁,toks:=s2.toks+([]:List (Str × Value)).length }:=
   nZ I2 S hc f2 obf keep hl (Z10 _) hCle hDC ns
 have lS:FpS (aE X scope ts ix G2.objs.size s2 H2 fp) [] s2.heap.objs.size:=by
   refine ⟨hDC,fun z=>?_,.inr (Z10 _),fun x c e z=>?_,fun p hp=>absurd hp (by simp [aE])⟩
   · rcases Z19.mp (I2.stkSub _ z) with e | e
     · exact absurd I2.lt (by rw [<- e]; exact Z33 _)
     · exact I2.nofs (Z10 _) e
   · obtain ⟨v,q⟩:=I2.cell x c (ce (fun y d z=>by simp at z) e)
     exact absurd q.lt (by rw [z]; exact Z33 _)
 have stn:tn 0 h₁:=T.keep _ _ _ st2 fun b _ o e=>keep b o e
 have fp4:∀ b ∈ fp,eO (aE X scope ts ix G2.objs.size s2 H2 fp) ([]++[(s2.heap.objs.size,be [] 0)]) H2 b:=fun b hb=>by
   obtain ⟨f0,f1,f2',f3,f4,f5⟩:=f2 b hb
   obtain ⟨o,eo⟩:=obf b hb
   refine ⟨f0,below b (Z13 eo),fun z=>?_,.inl hb,fun x c e=>f4 x c (ce (fun y d z=>by simp at z) e),fun p hp=>?_⟩
   · rcases Z19.mp (I2.stkSub b z) with e | e
     · exact f1 e
     · exact f2' e
   · obtain rfl:p=(s2.heap.objs.size,be [] 0):=by simpa [aE] using hp
     exact Nat.ne_of_gt (Z13 eo)
 have run:∀ s3:Shared,s3={ s2 with heap:=h₁,toks:=s2.toks+([]:List (Str × Value)).length } ->
     codeAny (model X.prog X.w) X.A (.compLoop (.ListComp elt (⟨tg,iter,ifs,0⟩::gs) scope pos) 0 (.ref it) (.ref s2.heap.objs.size) (aE X scope ts ix G2.objs.size s2 H2 fp).env) (fun r s'=>compPost (model X.prog X.w) X.A X.xe use Q' (.ref s2.heap.objs.size) G2.objs.size r s') s3:=by
   rintro s3 rfl
   refine codeAny_mono (hlp G2.objs.size s2 H2 fp [] _ _ H2 _ [] [] 0 _ it tn J fp I4 lS .nil (Z30 _) T stn fp4 q2) fun r s' hr=>?_
   obtain ⟨rfl,σ',H',acc,its,n,J',rv,hz,q⟩:=hr
   have pl:=J'.pin (s2.heap.objs.size,be its n) (by simp)
   refine fin _ _ _ ⟨_,upd H' s2.heap.objs.size (.lst acc),rfl,let ⟨m,hn,_⟩:=J'.loc; ⟨m,hn⟩,by rw [au (Ne.symm hDC)]; exact J'.free,?_,q _ pl.2.1,fun h' sb=>tq I2 f2 (Z10 _) hCle J' rv hz sb⟩
   refine ⟨fun e=>?_,I2.nofs hCle,.inr (Z24 I2.sz hCle),fun x c e z=>?_,fun p hp z=>?_⟩
   · exact absurd (Z15 I2.lt hCle) (by rw [e]; exact Z33 _)
   · obtain ⟨v,q⟩:=I2.cell x c e
     exact absurd (Z15 q.lt hCle) (by rw [z]; exact Z33 _)
   · exact absurd (Z15 (Z13 (I2.pin p hp).1) hCle) (by rw [z]; exact Z33 _)
 exact jp (g:=⟨tg,iter,ifs,0⟩) rfl rfl (run _ rfl) (T.self _ 0 _ _ _ stn (run _ rfl))
theorem tD (hc:X.calm=true) (S:CompScope X scope ts ix) (hi:PI X tg iter wi)
   (hlp:PLp X scope ts ix tg (fun env it acc=>.compLoop (.ListComp elt (⟨tg,iter,ifs,0⟩::gs) scope pos) 0 it acc env) lp) (hs:∀ x,foldedSetIterable iter X.env x=pure x:=by intro _; rfl) :
   PE X (.ListComp elt (⟨tg,iter,ifs,0⟩::gs) scope pos) (iB ts.length ix wi lp):=by
 intro pins s σ H Q I h
 rw [eval_ListComp]
 refine qF (use:=none) (Q:=Q) hc S hi hlp hs I h fun acc C s' ⟨l,H',e,⟨m,hn⟩,_,_,q,back⟩=>?_
 subst e
 exact ⟨m,hn,fun h' sb=>⟨.ref l,H',back h' fun b hb=>sb.2 b hb,rfl,q⟩⟩
end
section
variable {X:Cx} {tg iter elt tg2 iter2:Expr} {ifs ifs2:List Expr} {scope:Scope} {pos:Pos} {ts:List Str} {ix:List Nat} {g g2:TG} {tt tt2:TT} {te:TE} {wi2:TI}
theorem wd (hc:X.calm=true) (hg:∀ C s2 H2 fp,PG (aE X scope ts ix C s2 H2 fp) tg g) (ht:∀ C s2 H2 fp,PIf (aE X scope ts ix C s2 H2 fp) ifs tt) (he:∀ C s2 H2 fp,PE (aE X scope ts ix C s2 H2 fp) elt te) :
   PLp X scope ts ix tg (fun env it acc=>.compLoop (.ListComp elt [⟨tg,iter,ifs,0⟩] scope pos) 0 it acc env) (lpW g tt (mo te)):=by
 intro C s2 H2 fp pins s σ H l acc its n Q it tn J fp' I hl rv hz T st hf h
 exact tm (X:=aE X scope ts ix C s2 H2 fp) (iter:=iter) (c:=fun it acc=>.compLoop (.ListComp elt [⟨tg,iter,ifs,0⟩] scope pos) 0 it acc (aE X scope ts ix C s2 H2 fp).env) rfl hc (hg C s2 H2 fp) (ht C s2 H2 fp) (v9 (he C s2 H2 fp))
   (fun _ _=>rfl) (fun _ _=>rfl) (fun it acc=>⟨_,rfl⟩) I hl rv hz T st hf h
end
set_option genInjectivity true in
inductive D where
 | non | bl (b:Bool) | int (i:Int) | str (x:Str) | tup (l:List D) | lst (l:List D)
mutual
def Rep (K:PySem.W.Frag) (H:Hp):D->V->Prop
 | .non,v=>v=.non
 | .bl b,v=>v=.bl b
 | .int i,v=>v=.int i
 | .str x,v=>v=.str x
 | .tup l,v=>∃ a xs,v=.ref a/\SqT K H a xs/\RepL K H l xs
 | .lst l,v=>∃ a xs,v=.ref a/\SqL K H a xs/\RepL K H l xs
def RepL (K:PySem.W.Frag) (H:Hp):List D->List V->Prop
 | [],xs=>xs=[]
 | d::ds,xs=>∃ x r,xs=x::r/\Rep K H d x/\RepL K H ds r
end
mutual
def D.eq:D->D->Bool
 | .non,.non=>true
 | .bl a,.bl b=>a == b
 | .bl a,.int b=>(if a then 1 else 0) == b
 | .int a,.bl b=>a == (if b then 1 else 0)
 | .int a,.int b=>a == b
 | .str a,.str b=>a == b
 | .tup a,.tup b=>D.eqL a b
 | .lst a,.lst b=>D.eqL a b
 | _,_=>false
def D.eqL:List D->List D->Bool
 | [],[]=>true
 | a::r,b::t=>D.eq a b && D.eqL r t
 | _,_=>false
end
theorem D.e1 (a b:Bool):D.eq (.bl a) (.bl b)=(a == b):=rfl
theorem D.e2 (a b:Int):D.eq (.int a) (.int b)=(a == b):=rfl
theorem D.e3 (a b:Str):D.eq (.str a) (.str b)=(a == b):=rfl
theorem D.e4 (a b:List D):D.eq (.tup a) (.tup b)=D.eqL a b:=rfl
theorem D.e5 (a b:List D):D.eq (.lst a) (.lst b)=D.eqL a b:=rfl
theorem D.e6:D.eqL [] []=true:=rfl
theorem D.e7 (a b:D) (r t:List D):D.eqL (a::r) (b::t)=(D.eq a b && D.eqL r t):=rfl
theorem D.e8 (b:D) (t:List D):D.eqL [] (b::t)=false:=rfl
theorem D.e9 (b:D) (t:List D):D.eqL (b::t) []=false:=rfl
mutual
def D.depth:D->Nat
 | .tup l=>D.depthL l+1
 | .lst l=>D.depthL l+1
 | _=>0
def D.depthL:List D->Nat
 | []=>0
 | a::r=>max (D.depth a) (D.depthL r)
end
mutual
theorem D.eq_refl:∀ d:D,D.eq d d=true
 | .non=>rfl
 | .bl b=>by simp -iota [D.e1,D.e2,D.e3,D.e4,D.e5]
 | .int i=>by simp -iota [D.e1,D.e2,D.e3,D.e4,D.e5]
 | .str x=>by simp -iota [D.e1,D.e2,D.e3,D.e4,D.e5]
 | .tup l=>by simp -iota [D.e1,D.e2,D.e3,D.e4,D.e5,D.eqL_refl l]
 | .lst l=>by simp -iota [D.e1,D.e2,D.e3,D.e4,D.e5,D.eqL_refl l]
theorem D.eqL_refl:∀ l:List D,D.eqL l l=true
 | []=>rfl
 | a::r=>by simp -iota [D.e6,D.e7,D.e8,D.e9,D.eq_refl a,D.eqL_refl r]
end
theorem RepL.length {K:PySem.W.Frag} {H:Hp}:∀ {l:List D} {xs:List V},RepL K H l xs->xs.length=l.length
 | [],xs,h=>by rw [RepL] at h; subst h; rfl
 | d::ds,xs,h=>by
   rw [RepL] at h
   obtain ⟨x,r,rfl,_,t⟩:=h
   simp -iota [RepL.length t]
theorem RepL.get {K:PySem.W.Frag} {H:Hp}:∀ {l:List D} {xs:List V} {i:Nat} {d:D},RepL K H l xs->l[i]?=some d->∃ x,xs[i]?=some x/\Rep K H d x
 | [],xs,i,d,h,e=>by simp -iota at e
 | d'::ds,xs,0,d,h,e=>by
   rw [RepL] at h
   obtain ⟨x,r,rfl,p,_⟩:=h
   simp -iota at e; subst e
   exact ⟨x,rfl,p⟩
 | d'::ds,xs,i+1,d,h,e=>by
   rw [RepL] at h
   obtain ⟨x,r,rfl,_,t⟩:=h
   obtain ⟨y,h1,h2⟩:=RepL.get (i:=i) t (by simpa using e)
   exact ⟨y,by simpa using h1,h2⟩
theorem RepL.nil {K:PySem.W.Frag} {H:Hp}:RepL K H [] []:=by rw [RepL]
theorem RepL.cons {K:PySem.W.Frag} {H:Hp} {d:D} {ds:List D} {x:V} {xs:List V} (h:Rep K H d x) (t:RepL K H ds xs):RepL K H (d::ds) (x::xs):=by rw [RepL]; exact ⟨x,xs,rfl,h,t⟩
noncomputable def Az (K:PySem.W.Frag) (H H':Hp):Prop:=(∀ a xs,SqT K H a xs->SqT K H' a xs)/\∀ a xs,SqL K H a xs->SqL K H' a xs
theorem Same.stay {K:PySem.W.Frag} {H H':Hp} (s:Same H H'):Az K H H':=by
 refine ⟨fun a xs h=>?_,fun a xs h=>s.seq h⟩
 exact s _ _ h
mutual
theorem Rep.stay {K:PySem.W.Frag} {H H':Hp} (s:Az K H H'):∀ {d:D} {v:V},Rep K H d v->Rep K H' d v
 | .non,v,h=>by rw [Rep] at h ⊢; exact h
 | .bl _,v,h=>by rw [Rep] at h ⊢; exact h
 | .int _,v,h=>by rw [Rep] at h ⊢; exact h
 | .str _,v,h=>by rw [Rep] at h ⊢; exact h
 | .tup l,v,h=>by
   rw [Rep] at h ⊢
   obtain ⟨a,xs,e,p,q⟩:=h
   exact ⟨a,xs,e,s.1 a xs p,RepL.stay s q⟩
 | .lst l,v,h=>by
   rw [Rep] at h ⊢
   obtain ⟨a,xs,e,p,q⟩:=h
   exact ⟨a,xs,e,s.2 a xs p,RepL.stay s q⟩
theorem RepL.stay {K:PySem.W.Frag} {H H':Hp} (s:Az K H H'):∀ {l:List D} {xs:List V},RepL K H l xs->RepL K H' l xs
 | [],xs,h=>by rw [RepL] at h ⊢; exact h
 | d::ds,xs,h=>by
   rw [RepL] at h
   obtain ⟨x,r,rfl,p,q⟩:=h
   exact .cons (Rep.stay s p) (RepL.stay s q)
end
mutual
def D.imm:D->Bool
 | .tup l=>D.immL l
 | .lst _=>false
 | _=>true
def D.immL:List D->Bool
 | []=>true
 | a::r=>D.imm a && D.immL r
end
noncomputable def aT (K:PySem.W.Frag) (H H':Hp):Prop:=∀ a xs,SqT K H a xs->SqT K H' a xs
mutual
theorem Rep.stayT {K:PySem.W.Frag} {H H':Hp} (s:aT K H H'):∀ {d:D} {v:V},D.imm d=true->Rep K H d v->Rep K H' d v
 | .non,v,_,h=>by rw [Rep] at h ⊢; exact h
 | .bl _,v,_,h=>by rw [Rep] at h ⊢; exact h
 | .int _,v,_,h=>by rw [Rep] at h ⊢; exact h
 | .str _,v,_,h=>by rw [Rep] at h ⊢; exact h
 | .tup l,v,i,h=>by
   rw [Rep] at h ⊢
   obtain ⟨a,xs,e,p,q⟩:=h
   exact ⟨a,xs,e,s a xs p,RepL.stayT s (by simpa [D.imm] using i) q⟩
 | .lst l,v,i,h=>by simp -iota [D.imm] at i
theorem RepL.stayT {K:PySem.W.Frag} {H H':Hp} (s:aT K H H'):∀ {l:List D} {xs:List V},D.immL l=true->RepL K H l xs->RepL K H' l xs
 | [],xs,_,h=>by rw [RepL] at h ⊢; exact h
 | d::ds,xs,i,h=>by
   rw [RepL] at h
   obtain ⟨x,r,rfl,p,q⟩:=h
   simp -iota only [D.immL,Z25] at i
   exact .cons (Rep.stayT s i.1 p) (RepL.stayT s i.2 q)
end
section
variable {X:Cx} {pins:List (Addr × Obj)} {σ:St} {H:Hp} {s:Shared}
theorem Inv.list_ne_tuple (I:Inv X pins σ H s) {a:Addr} {xs ys:List V} (h:SqL X.K H a xs) (h':SqT X.K H a ys):False:=by
 obtain ⟨its,_,⟨o,n,e,c,_⟩,_⟩:=I.list h
 obtain ⟨its',_,⟨o',e',c',_⟩,_⟩:=I.tuple h'
 rw [e] at e'; cases e'
 rw [c] at c'
 exact absurd c' (by decide)
mutual
theorem Rep.inj (I:Inv X pins σ H s):∀ {d e:D} {v:V},Rep X.K H d v->Rep X.K H e v->d=e
 | .non,e,v,h,h'=>by rw [Rep] at h; subst h; cases e <;> rw [Rep] at h' <;> first | rfl | (obtain ⟨_,_,z,_⟩:=h'; cases z; done) | (cases h'; done)
 | .bl b,e,v,h,h'=>by rw [Rep] at h; subst h; cases e <;> rw [Rep] at h' <;> first | (cases h'; rfl) | (obtain ⟨_,_,z,_⟩:=h'; cases z; done) | (cases h'; done)
 | .int b,e,v,h,h'=>by rw [Rep] at h; subst h; cases e <;> rw [Rep] at h' <;> first | (cases h'; rfl) | (obtain ⟨_,_,z,_⟩:=h'; cases z; done) | (cases h'; done)
 | .str b,e,v,h,h'=>by rw [Rep] at h; subst h; cases e <;> rw [Rep] at h' <;> first | (cases h'; rfl) | (obtain ⟨_,_,z,_⟩:=h'; cases z; done) | (cases h'; done)
 | .tup l,e,v,h,h'=>by
   rw [Rep] at h
   obtain ⟨a,xs,rfl,p,q⟩:=h
   cases e <;> rw [Rep] at h'
   case tup m=>
     obtain ⟨b,ys,z,p',q'⟩:=h'
     cases z
     have:=I.tuple_inj p p'
     subst this
     rw [RepL.inj I q q']
   case lst m=>
     obtain ⟨b,ys,z,p',q'⟩:=h'
     cases z
     exact (I.list_ne_tuple p' p).elim
   all_goals cases h'
 | .lst l,e,v,h,h'=>by
   rw [Rep] at h
   obtain ⟨a,xs,rfl,p,q⟩:=h
   cases e <;> rw [Rep] at h'
   case lst m=>
     obtain ⟨b,ys,z,p',q'⟩:=h'
     cases z
     have:=I.list_inj p p'
     subst this
     rw [RepL.inj I q q']
   case tup m=>
     obtain ⟨b,ys,z,p',q'⟩:=h'
     cases z
     exact (I.list_ne_tuple p p').elim
   all_goals cases h'
theorem RepL.inj (I:Inv X pins σ H s):∀ {l m:List D} {xs:List V},RepL X.K H l xs->RepL X.K H m xs->l=m
 | [],m,xs,h,h'=>by
   rw [RepL] at h; subst h
   cases m with
   | nil=>rfl
   | cons a r=>rw [RepL] at h'; obtain ⟨_,_,z,_⟩:=h'; cases z
 | d::ds,m,xs,h,h'=>by
   rw [RepL] at h
   obtain ⟨x,r,rfl,p,q⟩:=h
   cases m with
   | nil=>rw [RepL] at h'; cases h'
   | cons a t=>
     rw [RepL] at h'
     obtain ⟨_,_,z,p',q'⟩:=h'
     cases z
     rw [Rep.inj I p p',RepL.inj I q q']
end
end
noncomputable def bI (l m:List D) (j:Nat):Bool:=match l[j]?,m[j]? with
 | some a,some b=>D.eq a b
 | _,_=>true
theorem dU:∀ (l m:List D),((List.range (min l.length m.length)).all (bI l m) && l.length == m.length)=D.eqL l m
 | [],[]=>by simp -iota [D.e6,D.e7,D.e8,D.e9]
 | [],b::t=>by simp -iota [D.e6,D.e7,D.e8,D.e9]
 | a::r,[]=>by simp -iota [D.e6,D.e7,D.e8,D.e9]
 | a::r,b::t=>by
   rw [D.e7,<- dU r t]
   have e1:min (a::r).length (b::t).length=min r.length t.length+1:=by simp -iota [Nat.succ_min_succ]
   rw [e1,List.range_succ_eq_map,List.all_cons,List.all_map]
   have e2:(bI (a::r) (b::t) ∘ Nat.succ)=bI r t:=by funext j; simp -iota [bI]
   rw [e2]
   have e3:bI (a::r) (b::t) 0=D.eq a b:=by simp [bI]
   rw [e3,Bool.and_assoc]
   congr 2
   simp
theorem pD {l m:List D} (h:l.length ≠ m.length):D.eqL l m=false:=by
 rw [<- dU l m]
 simp -iota [h]
section
variable {X:Cx} {pins:List (Addr × Obj)} {σ:St} {H:Hp} {s:Shared}
open PySem.SeqAt
theorem eS:∀ {l:List D} {j:Nat} {d:D},l[j]?=some d->D.depth d<=D.depthL l
 | [],j,d,e=>by simp -iota at e
 | a::r,0,d,e=>by simp -iota at e; subst e; rw [D.depthL]; exact Nat.le_max_left _ _
 | a::r,j+1,d,e=>by rw [D.depthL]; exact Z24 (eS (l:=r) (j:=j) (by simpa using e)) (Nat.le_max_right _ _)
set_option maxHeartbeats 1000000 in
theorem n4 (I:Inv X pins σ H s) {A:Around} {e:D} {y:V} {v:Value} (hu:A.units < cLine) (re:Rep X.K H e y) (rv:RelV y v) :
   EqAt A s Value.none v (D.eq .non e)/\RcAt A s Value.none v (D.eq .non e):=by
 cases e <;> rw [Rep] at re
 case non=>
   subst re
   cases rv
   exact ⟨EqAt.same _,RcAt.none_none⟩
 case bl c=>
   subst re
   cases rv
   exact ⟨EqAt.none_bool _,RcAt.none_bool _⟩
 case int c=>
   subst re
   obtain ⟨t',rfl⟩:=rv
   exact ⟨EqAt.none_int _ _,RcAt.none_int _ _⟩
 case str c=>
   subst re
   obtain ⟨t',rfl⟩:=rv
   exact ⟨EqAt.none_str _ _,RcAt.none_str _ _⟩
 case tup m=>
   obtain ⟨a,xs,rfl,p,q⟩:=re
   cases rv
   obtain ⟨its,r,pl,_⟩:=I.tuple p
   exact ⟨EqAt.none_tuple  pl hu,RcAt.none_tuple  pl hu⟩
 case lst m=>
   obtain ⟨a,xs,rfl,p,q⟩:=re
   cases rv
   obtain ⟨its,r,pl,_⟩:=I.list p
   exact ⟨EqAt.none_list  pl.isList hu,RcAt.none_list  pl.isList hu⟩
set_option maxHeartbeats 1000000 in
theorem qG (I:Inv X pins σ H s) {A:Around} {b:Bool} {e:D} {y:V} {v:Value} (hu:A.units < cLine) (re:Rep X.K H e y) (rv:RelV y v) :
   EqAt A s (.bool b) v (D.eq (.bl b) e)/\RcAt A s (.bool b) v (D.eq (.bl b) e):=by
 cases e <;> rw [Rep] at re
 case non=>
   subst re
   cases rv
   exact ⟨EqAt.bool_none _,RcAt.bool_none _⟩
 case bl c=>
   subst re
   cases rv
   exact ⟨EqAt.bool_bool _ _,RcAt.bool_bool _ _⟩
 case int c=>
   subst re
   obtain ⟨t',rfl⟩:=rv
   exact ⟨EqAt.bool_int _ _ _,RcAt.bool_int _ _ _⟩
 case str c=>
   subst re
   obtain ⟨t',rfl⟩:=rv
   exact ⟨EqAt.bool_str _ _ _,RcAt.bool_str _ _ _⟩
 case tup m=>
   obtain ⟨a,xs,rfl,p,q⟩:=re
   cases rv
   obtain ⟨its,r,pl,_⟩:=I.tuple p
   exact ⟨EqAt.bool_tuple _ pl hu,RcAt.bool_tuple _ pl hu⟩
 case lst m=>
   obtain ⟨a,xs,rfl,p,q⟩:=re
   cases rv
   obtain ⟨its,r,pl,_⟩:=I.list p
   exact ⟨EqAt.bool_list _ pl.isList hu,RcAt.bool_list _ pl.isList hu⟩
set_option maxHeartbeats 1000000 in
theorem n5 (I:Inv X pins σ H s) {A:Around} {b:Int} {e:D} {y:V} {t:Tok} {v:Value} (hu:A.units < cLine) (re:Rep X.K H e y) (rv:RelV y v) :
   EqAt A s (.int b t) v (D.eq (.int b) e)/\RcAt A s (.int b t) v (D.eq (.int b) e):=by
 cases e <;> rw [Rep] at re
 case non=>
   subst re
   cases rv
   exact ⟨EqAt.int_none _ _,RcAt.int_none _ _⟩
 case bl c=>
   subst re
   cases rv
   exact ⟨EqAt.int_bool _ _ _,RcAt.int_bool _ _ _⟩
 case int c=>
   subst re
   obtain ⟨t',rfl⟩:=rv
   exact ⟨EqAt.int_int _ _ _ _,RcAt.int_int _ _ _ _⟩
 case str c=>
   subst re
   obtain ⟨t',rfl⟩:=rv
   exact ⟨EqAt.int_str _ _ _ _,RcAt.int_str _ _ _ _⟩
 case tup m=>
   obtain ⟨a,xs,rfl,p,q⟩:=re
   cases rv
   obtain ⟨its,r,pl,_⟩:=I.tuple p
   exact ⟨EqAt.int_tuple _ _ pl hu,RcAt.int_tuple _ _ pl hu⟩
 case lst m=>
   obtain ⟨a,xs,rfl,p,q⟩:=re
   cases rv
   obtain ⟨its,r,pl,_⟩:=I.list p
   exact ⟨EqAt.int_list _ _ pl.isList hu,RcAt.int_list _ _ pl.isList hu⟩
set_option maxHeartbeats 1000000 in
theorem n6 (I:Inv X pins σ H s) {A:Around} {b:Str} {e:D} {y:V} {t:Tok} {v:Value} (hu:A.units < cLine) (re:Rep X.K H e y) (rv:RelV y v) :
   EqAt A s (.str b t) v (D.eq (.str b) e)/\RcAt A s (.str b t) v (D.eq (.str b) e):=by
 cases e <;> rw [Rep] at re
 case non=>
   subst re
   cases rv
   exact ⟨EqAt.str_none _ _,RcAt.str_none _ _⟩
 case bl c=>
   subst re
   cases rv
   exact ⟨EqAt.str_bool _ _ _,RcAt.str_bool _ _ _⟩
 case int c=>
   subst re
   obtain ⟨t',rfl⟩:=rv
   exact ⟨EqAt.str_int _ _ _ _,RcAt.str_int _ _ _ _⟩
 case str c=>
   subst re
   obtain ⟨t',rfl⟩:=rv
   exact ⟨EqAt.str_str _ _ _ _,RcAt.str_str _ _ _ _⟩
 case tup m=>
   obtain ⟨a,xs,rfl,p,q⟩:=re
   cases rv
   obtain ⟨its,r,pl,_⟩:=I.tuple p
   exact ⟨EqAt.str_tuple _ _ pl hu,RcAt.str_tuple _ _ pl hu⟩
 case lst m=>
   obtain ⟨a,xs,rfl,p,q⟩:=re
   cases rv
   obtain ⟨its,r,pl,_⟩:=I.list p
   exact ⟨EqAt.str_list _ _ pl.isList hu,RcAt.str_list _ _ pl.isList hu⟩
set_option maxHeartbeats 4000000 in
theorem eqD (I:Inv X pins σ H s):∀ (n:Nat) (A:Around) (d e:D) (x y:V) (u v:Value),D.depth d<=n->A.units+n < cLine->Rep X.K H d x->Rep X.K H e y->RelV x u->RelV y v->EqAt A s u v (D.eq d e)/\RcAt A s u v (D.eq d e):=by
 intro n
 induction n with
 | zero=>
   intro A d e x y u v hn hu rd re ru rv
   have hu:A.units < cLine:=by omega
   cases d with
   | non=>rw [Rep] at rd; subst rd; cases ru; exact n4 I hu re rv
   | bl b=>rw [Rep] at rd; subst rd; cases ru; exact qG I hu re rv
   | int i=>rw [Rep] at rd; subst rd; obtain ⟨t',rfl⟩:=ru; exact n5 I hu re rv
   | str i=>rw [Rep] at rd; subst rd; obtain ⟨t',rfl⟩:=ru; exact n6 I hu re rv
   | tup l=>rw [D.depth] at hn; grind
   | lst l=>rw [D.depth] at hn; omega
 | succ n ih=>
   intro A d e x y u v hn hu rd re ru rv
   have hu0:A.units < cLine:=by grind
   have hu1:A.in1.units+n < cLine:=by show A.units+1+n < cLine; lia
   have flat:D.depth d=0->EqAt A s u v (D.eq d e)/\RcAt A s u v (D.eq d e):=fun z=>ih A d e x y u v (by grind) (by lia) rd re ru rv
   have items:∀ {l m:List D} {xs ys:List V} {its its':List Value},D.depthL l<=n->RepL X.K H l xs->RepL X.K H m ys->Vals xs its->Vals ys its' ->
       ∀ j (h1:j < its.toArray.size) (h2:j < its'.toArray.size),EqAt A.in1 s its.toArray[j] its'.toArray[j] (bI l m j):=by
     intro l m xs ys its its' hd rl rm r r' j h1 h2
     have L1:=r.length; have L2:=r'.length; have L3:=rl.length; have L4:=rm.length
     simp -iota only [Z4] at h1 h2
     have j1:j < l.length:=by lia
     have j2:j < m.length:=by lia
     obtain ⟨x',hx',px⟩:=rl.get (i:=j) (d:=l[j]) (by simp -iota [j1])
     obtain ⟨y',hy',py⟩:=rm.get (i:=j) (d:=m[j]) (by simp -iota [j2])
     obtain ⟨u',hu',pu⟩:=r.get hx'
     obtain ⟨v',hv',pv'⟩:=r'.get hy'
     have e1:its.toArray[j]=u':=by
       have:=(Z9.mp hu').2; simpa using this
     have e2:its'.toArray[j]=v':=by
       have:=(Z9.mp hv').2; simpa using this
     have e3:bI l m j=D.eq l[j] m[j]:=by simp [bI,j1,j2]
     rw [e1,e2,e3]
     exact (ih A.in1 l[j] m[j] x' y' u' v' (Z24 (eS (l:=l) (j:=j) (by simp -iota [j1])) hd) hu1 px py pu pv').1
   cases d with
   | non=>exact flat (by simp [D.depth])
   | bl b=>exact flat (by simp [D.depth])
   | int i=>exact flat (by simp [D.depth])
   | str i=>exact flat (by simp [D.depth])
   | tup l=>
     have rd0:=rd
     rw [Rep] at rd
     obtain ⟨a,xs,rfl,p,q⟩:=rd
     cases ru
     obtain ⟨its,r,pl,_⟩:=I.tuple p
     have hdl:D.depthL l<=n:=by rw [D.depth] at hn; lia
     have re0:=re
     cases e <;> rw [Rep] at re
     case non=>subst re; cases rv; exact ⟨EqAt.tuple_none pl hu0,RcAt.tuple_none pl hu0⟩
     case bl b=>subst re; cases rv; exact ⟨EqAt.tuple_bool _ pl hu0,RcAt.tuple_bool _ pl hu0⟩
     case int b=>subst re; obtain ⟨t,rfl⟩:=rv; exact ⟨EqAt.tuple_int _ _ pl hu0,RcAt.tuple_int _ _ pl hu0⟩
     case str b=>subst re; obtain ⟨t,rfl⟩:=rv; exact ⟨EqAt.tuple_str _ _ pl hu0,RcAt.tuple_str _ _ pl hu0⟩
     case lst m=>
       obtain ⟨b,ys,rfl,p',q'⟩:=re
       cases rv
       obtain ⟨its',r',pl',_⟩:=I.list p'
       exact ⟨EqAt.tuple_list pl pl'.isList hu0,RcAt.tuple_list pl pl'.isList hu0⟩
     case tup m=>
       obtain ⟨b,ys,rfl,p',q'⟩:=re
       cases rv
       obtain ⟨its',r',pl',_⟩:=I.tuple p'
       have L1:=r.length; have L2:=r'.length; have L3:=q.length; have L4:=q'.length
       have rc:RcAt A s (.ref a) (.ref b) (D.eq (.tup l) (.tup m)):=by
         have z:=RcAt.tuples (e:=bI l m) pl pl' hu0 (items hdl q q' r r')
         rw [D.e4,<- dU l m]
         simp -iota only [Z4] at z
         rw [<- L1,<- L2,L3,L4] at z
         exact z
       refine ⟨?_,rc⟩
       by_cases hab:a=b
       · subst hab
         rw [Rep.inj I rd0 re0,D.eq_refl]
         exact EqAt.same _
       · exact .of_refs hab rc
   | lst l=>
     have rd0:=rd
     rw [Rep] at rd
     obtain ⟨a,xs,rfl,p,q⟩:=rd
     cases ru
     obtain ⟨its,r,pl,_⟩:=I.list p
     have hdl:D.depthL l<=n:=by rw [D.depth] at hn; omega
     have re0:=re
     cases e <;> rw [Rep] at re
     case non=>subst re; cases rv; exact ⟨EqAt.list_none pl.isList hu0,RcAt.list_none pl.isList hu0⟩
     case bl b=>subst re; cases rv; exact ⟨EqAt.list_bool _ pl.isList hu0,RcAt.list_bool _ pl.isList hu0⟩
     case int b=>subst re; obtain ⟨t,rfl⟩:=rv; exact ⟨EqAt.list_int _ _ pl.isList hu0,RcAt.list_int _ _ pl.isList hu0⟩
     case str b=>subst re; obtain ⟨t,rfl⟩:=rv; exact ⟨EqAt.list_str _ _ pl.isList hu0,RcAt.list_str _ _ pl.isList hu0⟩
     case tup m=>
       obtain ⟨b,ys,rfl,p',q'⟩:=re
       cases rv
       obtain ⟨its',r',pl',_⟩:=I.tuple p'
       exact ⟨EqAt.list_tuple pl.isList pl' hu0,RcAt.list_tuple pl.isList pl' hu0⟩
     case lst m=>
       obtain ⟨b,ys,rfl,p',q'⟩:=re
       cases rv
       obtain ⟨its',r',pl',_⟩:=I.list p'
       have L1:=r.length; have L2:=r'.length; have L3:=q.length; have L4:=q'.length
       have rc:RcAt A s (.ref a) (.ref b) (D.eq (.lst l) (.lst m)):=by
         rw [D.e5]
         by_cases hl:l.length=m.length
         · have z:=RcAt.lists (e:=bI l m) pl.isList pl'.isList (by simp; grind) hu0 (items hdl q q' r r')
           rw [<- dU l m,hl]
           simp -iota only [Z4] at z
           rw [<- L1,L3,hl] at z
           simpa using z
         · rw [pD hl]
           exact RcAt.lists_lengths pl.isList pl'.isList (by simp; grind) hu0
       refine ⟨?_,rc⟩
       by_cases hab:a=b
       · subst hab
         rw [Rep.inj I rd0 re0,D.eq_refl]
         exact EqAt.same _
       · exact .of_refs hab rc
end
section
variable {X:Cx}
open Classical in
noncomputable def n9 (t c:String):Bool:=t == c || (t == "bool" && c == "int")
noncomputable def dj:List String:=["NoneType","bool","int","str","list","tuple"]
theorem dW (K:PySem.W.Frag):∀ t ∈ dj,∀ c ∈ ["bool","int","str","list","tuple"],PySem.W.kitOne K (.type t) (.type c)=some (n9 t c):=by
 intro t ht c hc
 simp -iota only [dj,Z19,List.not_mem_nil,or_false] at ht hc
 rcases ht with rfl | rfl | rfl | rfl | rfl | rfl <;> rcases hc with rfl | rfl | rfl | rfl | rfl <;> first | rfl | decide +kernel | (unfold PySem.W.kitOne; rfl)
end
end L2
namespace L2
open PySem PySem.Spec PyProof.Rows
structure FnG (P:Program) (w:World) (K:PySem.W.Frag) (mg:Str->Option Value) (base:Heap) (x:Str) (k:Nat) (ps:List Str) (sp:Sp):Prop where
 ex:∃ (f:Addr) (fd:FuncData),FnOk P w K mg base CX0 k f fd ps sp/\mg x=some (.ref f)/\PySem.W.keepIn K (.ref f)=true/\Binds K fd ps []
section
variable {X:Cx} {e:Expr} {es:List Expr} {t:TA} {p pos:Pos} {x:Str} {k:Nat} {ps:List Str} {sp:Sp}
theorem tE (F:FnG X.prog X.w X.K X.mg X.base x k ps sp) (hr:Room k X.A) (hg:Gl X x) (ha:PA X (e::es) t) (hdb:(x == ("__debug__":Str))=false:=by decide) (he:starEach (e::es) X.env=(false,eval e X.env)::starEach es X.env:=by rfl)
   (hpl:(backTo pos (starEach es X.env)).any (·.1)=false:=by rfl):PE X (.Call (.Name x p) (e::es) [] pos) (gJ sp [] E0 t):=by
 obtain ⟨f,fd,F,hm,hk,hb⟩:=F.ex
 exact vU F hr hg hm hk hb .nil CL ha hdb he hpl
end
noncomputable def CN (K:PySem.W.Frag):R2:=fun x y H Q=>match x,y with
 | .int i,.int j=>Q (.int (i+j)) H
 | .int i,.bl k=>Q (.int (i+b2i k)) H
 | .str i,.str j=>i.length+j.length<=sizeLine/\Q (.str (i++j)) H
 | .ref a,.ref b=>sK K (.ref a) (.ref b) H Q∨CK (.ref a) (.ref b) H Q
 | _,_=>False
noncomputable def toD:V->D
 | .non=>.non
 | .bl b=>.bl b
 | .int i=>.int i
 | .str x=>.str x
 | _=>.non
theorem gZ {K:PySem.W.Frag} {H:Hp} {x:V} (h:bS x=true):Rep K H (toD x) x:=by
 cases x <;> first | (simp [bS] at h; done) | (simp [toD,Rep])
theorem of {x y:V} (hx:bS x=true) (hy:bS y=true):D.eq (toD x) (toD y)=eqV x y:=by
 cases x <;> cases y <;> first | (simp [bS] at hx; done) | (simp [bS] at hy; done) | rfl
noncomputable def kS (K:PySem.W.Frag) (n:Nat) (neg:Bool):R2:=fun x y H Q=>match bS x && bS y with
 | true=>Q (.bl (if neg then !eqV x y else eqV x y)) H
 | false=>∃ d e,Rep K H d x/\Rep K H e y/\D.depth d<=n/\Q (.bl (if neg then !D.eq d e else D.eq d e)) H
noncomputable def we (K:PySem.W.Frag):R2:=fun x y H Q=>match x,y with
 | .str z,.int i=>z.length<=sizeLine/\∃ c,atI z.cps.toList i=some c/\Q (.str ⟨#[c]⟩) H
 | .ref p,.int i=>∃ xs v,(SqL K H p xs∨SqT K H p xs)/\atI xs i=some v/\Q v H
 | _,_=>False
noncomputable def yX:R2:=fun x y H Q=>match x,y with
 | .int i,.int j=>CMul i j/\Q (.int (i * j)) H
 | _,_=>False
noncomputable def yY (j:Int):Prop:=0 < j/\j.natAbs.log2 < 9000
noncomputable def tF:R2:=fun x y H Q=>match x,y with
 | .int i,.int j=>0 < j/\Q (.int (i % j)) H
 | _,_=>False
noncomputable def tG:R2:=fun x y H Q=>match x,y with
 | .int i,.int j=>Q (.int (i - j)) H
 | _,_=>False
noncomputable def jI (p:Int->Int->Bool) (q:Str->Str->Bool):R2:=fun x y H Q=>match x,y with
 | .int i,.int j=>Q (.bl (p i j)) H
 | .str i,.str j=>Q (.bl (q i j)) H
 | _,_=>False
section
variable {X:Cx}
theorem hG:OpR X (binaryOp .Add) (CN X.K):=by
 intro pins s σ H x y v u Q I rx ry h
 cases x with
 | int i=>
   cases y with
   | int j=>exact nN pins s σ H _ _ v u Q I rx ry ⟨_,_,rfl,rfl,h⟩
   | bl j=>exact qv pins s σ H _ _ v u Q I rx ry ⟨_,_,rfl,rfl,h⟩
   | _=>exact False.elim h
 | str i=>
   cases y with
   | str j=>exact nS pins s σ H _ _ v u Q I rx ry ⟨_,_,rfl,rfl,h.1,h.2⟩
   | _=>exact False.elim h
 | ref a=>
   cases y with
   | ref b=>
     rcases h with h | h
     · exact vY pins s σ H _ _ v u Q I rx ry h
     · exact Au pins s σ H _ _ v u Q I rx ry h
   | _=>exact False.elim h
 | _=>exact False.elim h
theorem wg:OpR X (binaryOp .Mult) yX:=by
 intro pins s σ H x y v u Q I rx ry h
 unfold yX at h
 split at h
 · exact Ag pins s σ H _ _ v u Q I rx ry ⟨_,_,rfl,rfl,h.1,h.2⟩
 · exact h.elim
theorem wj:OpR X (binaryOp .Mod) tF:=by
 intro pins s σ H x y v u Q I rx ry h
 unfold tF at h
 split at h
 · exact nP pins s σ H _ _ v u Q I rx ry ⟨_,_,rfl,rfl,h.1,h.2⟩
 · exact h.elim
theorem wm:OpR X (binaryOp .Sub) tG:=by
 intro pins s σ H x y v u Q I rx ry h
 unfold tG at h
 split at h
 · exact nO pins s σ H _ _ v u Q I rx ry ⟨_,_,rfl,rfl,h⟩
 · exact h.elim
theorem wp {n:Nat} {neg:Bool} (hu:X.A.units+n < cLine) {pins:List (Addr × Obj)} {s:Shared} {σ:St} {H:Hp} {x y:V} {v u:Value} {Q:VK} (I:Inv X pins σ H s) (rx:RelV x v) (ry:RelV y u) (h:kS X.K n neg x y H Q) :
   ∃ b,SeqAt.RcAt X.A s v u b/\Q (.bl (if neg then !b else b)) H:=by
 unfold kS at h
 cases e:bS x && bS y with
 | true=>
   rw [e] at h
   rw [Z25] at e
   have d0:D.depth (toD x)<=n:=by cases x <;> simp [toD,D.depth]
   have z:=(eqD I n X.A (toD x) (toD y) x y v u d0 hu (gZ e.1) (gZ e.2) rx ry).2
   rw [of e.1 e.2] at z
   exact ⟨_,z,h⟩
 | false=>
   rw [e] at h
   obtain ⟨d,e,rd,re,hd,q⟩:=h
   exact ⟨_,(eqD I n X.A d e x y v u hd hu rd re rx ry).2,q⟩
theorem AA {n:Nat} (hu:X.A.units+n < cLine):OpR X (compareOp .Eq) (kS X.K n false):=by
 intro pins s σ H x y v u Q I rx ry h
 obtain ⟨b,r,q⟩:=wp hu I rx ry h
 exact r _ _ _ _ ⟨.bl b,H,I,rfl,q⟩
theorem wq {K:PySem.W.Frag} {x y:V} {H:Hp} {Q:VK} (h:we K x y H Q):rIx K x y H Q:=by
 cases y with
 | int j=>
   cases x with
   | str z=>
     obtain ⟨h1,c,h2,q⟩:=h
     exact .inr (.inr ⟨_,_,c,rfl,rfl,h1,h2,q⟩)
   | ref a=>
     obtain ⟨xs,w,h1 | h1,h2,q⟩:=h
     · exact .inl ⟨_,xs,_,w,rfl,rfl,h1,h2,q⟩
     · exact .inr (.inl ⟨_,xs,_,w,rfl,rfl,h1,h2,q⟩)
   | _=>exact False.elim h
 | _=>cases x <;> exact False.elim h
theorem IxR.imp {r r':R2} (h:IxR X r) (i:∀ x y H Q,r' x y H Q->r x y H Q):IxR X r':=by
 unfold IxR at h ⊢
 intros
 apply h <;> first | assumption | (apply i; assumption)
theorem op_ixA:IxR X (we X.K):=ix_seq.imp fun _ _ _ _ h=>wq h
end
section
variable {X:Cx} {pins:List (Addr × Obj)} {σ:St} {H:Hp} {s:Shared}
theorem pE (I:Inv X pins σ H s) {n:Nat} {A:Around} (hu:A.units+n < cLine) {l m:List D} {xs ys:List V} {its its':List Value} (hd:D.depthL l<=n) (rl:RepL X.K H l xs) (rm:RepL X.K H m ys) (r:Vals xs its) (r':Vals ys its') :
   ∀ j (h1:j < its.toArray.size) (h2:j < its'.toArray.size),SeqAt.EqAt A s its.toArray[j] its'.toArray[j] (bI l m j):=by
 intro j h1 h2
 have L1:=r.length; have L2:=r'.length; have L3:=rl.length; have L4:=rm.length
 simp only [Z4] at h1 h2
 have j1:j < l.length:=by lia
 have j2:j < m.length:=by lia
 obtain ⟨x',hx',px⟩:=rl.get (i:=j) (d:=l[j]) (by simp [j1])
 obtain ⟨y',hy',py⟩:=rm.get (i:=j) (d:=m[j]) (by simp [j2])
 obtain ⟨u',hu',pu⟩:=r.get hx'
 obtain ⟨v',hv',pv'⟩:=r'.get hy'
 have e1:its.toArray[j]=u':=by
   have:=(Z9.mp hu').2; simpa using this
 have e2:its'.toArray[j]=v':=by
   have:=(Z9.mp hv').2; simpa using this
 have e3:bI l m j=D.eq l[j] m[j]:=by simp [bI,j1,j2]
 rw [e1,e2,e3]
 exact (eqD I n A l[j] m[j] x' y' u' v' (Z24 (eS (l:=l) (j:=j) (by simp [j1])) hd) hu px py pu pv').1
set_option maxHeartbeats 4000000 in
theorem neD (I:Inv X pins σ H s) {n:Nat} {A:Around} {d e:D} {x y:V} {u v:Value} (hn:D.depth d<=n+1) (hu:A.units+(n+1) < cLine) (rd:Rep X.K H d x) (re:Rep X.K H e y) (ru:RelV x u) (rv:RelV y v):SeqAt.RcNeAt A s u v (!D.eq d e):=by
 have hu0:A.units < cLine:=by grind
 have hu1:A.in1.units+n < cLine:=by show A.units+1+n < cLine; lia
 cases d <;> rw [Rep] at rd
 case non=>
   subst rd
   cases ru
   cases e <;> rw [Rep] at re
   case non=>
     subst re
     cases rv
     exact SeqAt.RcNeAt.none_none
   case bl c=>
     subst re
     cases rv
     exact SeqAt.RcNeAt.none_bool _
   case int c=>
     subst re
     obtain ⟨t',rfl⟩:=rv
     exact SeqAt.RcNeAt.none_int _ _
   case str c=>
     subst re
     obtain ⟨t',rfl⟩:=rv
     exact SeqAt.RcNeAt.none_str _ _
   case tup m=>
     obtain ⟨b',ys,rfl,p',q'⟩:=re
     cases rv
     obtain ⟨its',r',pl',_⟩:=I.tuple p'
     exact SeqAt.RcNeAt.none_tuple  pl' hu0
   case lst m=>
     obtain ⟨b',ys,rfl,p',q'⟩:=re
     cases rv
     obtain ⟨its',r',pl',_⟩:=I.list p'
     exact SeqAt.RcNeAt.none_list  pl'.isList hu0
 case bl b=>
   subst rd
   cases ru
   cases e <;> rw [Rep] at re
   case non=>
     subst re
     cases rv
     exact SeqAt.RcNeAt.bool_none _
   case bl c=>
     subst re
     cases rv
     exact SeqAt.RcNeAt.bool_bool _ _
   case int c=>
     subst re
     obtain ⟨t',rfl⟩:=rv
     exact SeqAt.RcNeAt.bool_int _ _ _
   case str c=>
     subst re
     obtain ⟨t',rfl⟩:=rv
     exact SeqAt.RcNeAt.bool_str _ _ _
   case tup m=>
     obtain ⟨b',ys,rfl,p',q'⟩:=re
     cases rv
     obtain ⟨its',r',pl',_⟩:=I.tuple p'
     exact SeqAt.RcNeAt.bool_tuple _ pl' hu0
   case lst m=>
     obtain ⟨b',ys,rfl,p',q'⟩:=re
     cases rv
     obtain ⟨its',r',pl',_⟩:=I.list p'
     exact SeqAt.RcNeAt.bool_list _ pl'.isList hu0
 case int b=>
   subst rd
   obtain ⟨t,rfl⟩:=ru
   cases e <;> rw [Rep] at re
   case non=>
     subst re
     cases rv
     exact SeqAt.RcNeAt.int_none _ _
   case bl c=>
     subst re
     cases rv
     exact SeqAt.RcNeAt.int_bool _ _ _
   case int c=>
     subst re
     obtain ⟨t',rfl⟩:=rv
     exact SeqAt.RcNeAt.int_int _ _ _ _
   case str c=>
     subst re
     obtain ⟨t',rfl⟩:=rv
     exact SeqAt.RcNeAt.int_str _ _ _ _
   case tup m=>
     obtain ⟨b',ys,rfl,p',q'⟩:=re
     cases rv
     obtain ⟨its',r',pl',_⟩:=I.tuple p'
     exact SeqAt.RcNeAt.int_tuple _ _ pl' hu0
   case lst m=>
     obtain ⟨b',ys,rfl,p',q'⟩:=re
     cases rv
     obtain ⟨its',r',pl',_⟩:=I.list p'
     exact SeqAt.RcNeAt.int_list _ _ pl'.isList hu0
 case str b=>
   subst rd
   obtain ⟨t,rfl⟩:=ru
   cases e <;> rw [Rep] at re
   case non=>
     subst re
     cases rv
     exact SeqAt.RcNeAt.str_none _ _
   case bl c=>
     subst re
     cases rv
     exact SeqAt.RcNeAt.str_bool _ _ _
   case int c=>
     subst re
     obtain ⟨t',rfl⟩:=rv
     exact SeqAt.RcNeAt.str_int _ _ _ _
   case str c=>
     subst re
     obtain ⟨t',rfl⟩:=rv
     exact SeqAt.RcNeAt.str_str _ _ _ _
   case tup m=>
     obtain ⟨b',ys,rfl,p',q'⟩:=re
     cases rv
     obtain ⟨its',r',pl',_⟩:=I.tuple p'
     exact SeqAt.RcNeAt.str_tuple _ _ pl' hu0
   case lst m=>
     obtain ⟨b',ys,rfl,p',q'⟩:=re
     cases rv
     obtain ⟨its',r',pl',_⟩:=I.list p'
     exact SeqAt.RcNeAt.str_list _ _ pl'.isList hu0
 case tup l=>
   obtain ⟨a,xs,rfl,p,q⟩:=rd
   cases ru
   obtain ⟨its,r,pl,_⟩:=I.tuple p
   cases e <;> rw [Rep] at re
   case non=>
     subst re
     cases rv
     exact SeqAt.RcNeAt.tuple_none  pl hu0
   case bl c=>
     subst re
     cases rv
     exact SeqAt.RcNeAt.tuple_bool _ pl hu0
   case int c=>
     subst re
     obtain ⟨t',rfl⟩:=rv
     exact SeqAt.RcNeAt.tuple_int _ _ pl hu0
   case str c=>
     subst re
     obtain ⟨t',rfl⟩:=rv
     exact SeqAt.RcNeAt.tuple_str _ _ pl hu0
   case tup m=>
     obtain ⟨b',ys,rfl,p',q'⟩:=re
     cases rv
     obtain ⟨its',r',pl',_⟩:=I.tuple p'
     have L1:=r.length; have L2:=r'.length; have L3:=q.length; have L4:=q'.length
     have hdl:D.depthL l<=n:=by rw [D.depth] at hn; lia
     have it:=pE I hu1 hdl q q' r r'
     have z:=SeqAt.RcNeAt.tuples (e:=bI l m) pl pl' hu0 it
     rw [D.e4,<- dU l m]
     simp only [Z4] at z
     rw [<- L1,<- L2,L3,L4] at z
     exact z
   case lst m=>
     obtain ⟨b',ys,rfl,p',q'⟩:=re
     cases rv
     obtain ⟨its',r',pl',_⟩:=I.list p'
     exact SeqAt.RcNeAt.tuple_list  pl pl'.isList hu0
 case lst l=>
   obtain ⟨a,xs,rfl,p,q⟩:=rd
   cases ru
   obtain ⟨its,r,pl,_⟩:=I.list p
   cases e <;> rw [Rep] at re
   case non=>
     subst re
     cases rv
     exact SeqAt.RcNeAt.list_none  pl.isList hu0
   case bl c=>
     subst re
     cases rv
     exact SeqAt.RcNeAt.list_bool _ pl.isList hu0
   case int c=>
     subst re
     obtain ⟨t',rfl⟩:=rv
     exact SeqAt.RcNeAt.list_int _ _ pl.isList hu0
   case str c=>
     subst re
     obtain ⟨t',rfl⟩:=rv
     exact SeqAt.RcNeAt.list_str _ _ pl.isList hu0
   case tup m=>
     obtain ⟨b',ys,rfl,p',q'⟩:=re
     cases rv
     obtain ⟨its',r',pl',_⟩:=I.tuple p'
     exact SeqAt.RcNeAt.list_tuple  pl.isList pl' hu0
   case lst m=>
     obtain ⟨b',ys,rfl,p',q'⟩:=re
     cases rv
     obtain ⟨its',r',pl',_⟩:=I.list p'
     have L1:=r.length; have L2:=r'.length; have L3:=q.length; have L4:=q'.length
     have hdl:D.depthL l<=n:=by rw [D.depth] at hn; omega
     have it:=pE I hu1 hdl q q' r r'
     rw [D.e5]
     by_cases hl:l.length=m.length
     · have z:=SeqAt.RcNeAt.lists (e:=bI l m) pl.isList pl'.isList (by simp; grind) hu0 it
       rw [<- dU l m,hl]
       simp only [Z4] at z
       rw [<- L1,L3,hl] at z
       simpa using z
     · rw [pD hl]
       exact SeqAt.RcNeAt.lists_lengths pl.isList pl'.isList (by simp; grind) hu0
theorem AB {n:Nat} (hu:X.A.units+(n+1) < cLine):OpR X (compareOp .NotEq) (kS X.K (n+1) true):=by
 intro pins s σ H x y v u Q I rx ry h
 unfold kS at h
 cases e:bS x && bS y with
 | true=>
   rw [e] at h
   rw [Z25] at e
   have d0:D.depth (toD x)<=n+1:=by cases x <;> simp [toD,D.depth]
   have z:=neD I (n:=n) (A:=X.A) d0 hu (gZ e.1) (gZ e.2) rx ry
   rw [of e.1 e.2] at z
   exact z _ _ _ _ ⟨.bl _,H,I,rfl,h⟩
 | false=>
   rw [e] at h
   obtain ⟨d,e,rd,re,hd,q⟩:=h
   exact neD I (n:=n) (A:=X.A) hd hu rd re rx ry _ _ _ _ ⟨.bl _,H,I,rfl,q⟩
noncomputable def ltC (x y:Str):Bool:=decide (x.cps.toList < y.cps.toList)
theorem tH:OpR X (compareOp .Lt) (jI (fun i j=>decide (i < j)) ltC):=by
 intro pins s σ H x y v u Q I rx ry h
 unfold jI at h
 split at h
 · exact Cy pins s σ H _ _ v u Q I rx ry ⟨_,_,rfl,rfl,h⟩
 · obtain ⟨t,rfl⟩:=rx; obtain ⟨t',rfl⟩:=ry
   exact PySem.P.lt_str ⟨.bl _,H,I,rfl,h⟩
 · exact h.elim
theorem AC:OpR X (compareOp .Gt) (jI (fun i j=>decide (j < i)) (fun x y=>ltC y x)):=by
 intro pins s σ H x y v u Q I rx ry h
 unfold jI at h
 split at h
 · exact Cz pins s σ H _ _ v u Q I rx ry ⟨_,_,rfl,rfl,h⟩
 · obtain ⟨t,rfl⟩:=rx; obtain ⟨t',rfl⟩:=ry
   exact PySem.P.gt_str ⟨.bl _,H,I,rfl,h⟩
 · exact h.elim
end
noncomputable def yZ:List Str->Str->Nat
 | [],_=>0
 | y::r,x=>if x == y then 0 else yZ r x+1
noncomputable def cX (N:List Str):List (Str × NameKind)->List Nat
 | []=>[]
 | (n,k)::r=>if k == .free then yZ N n::cX N r else cX N r
noncomputable def But (p:Addr) (H H':Hp):Prop:=∀ b o,b ≠ p->H b=some o->H' b=some o
noncomputable def Its (z:Str):It:=⟨fun i _=>i < z.cps.size,fun i H x H'=>H'=H/\∃ c,z.cps.toList[i]?=some c/\x=.str ⟨#[c]⟩,fun i _=>z.cps.size<=i⟩
section
variable {X:Cx} {tg:Expr}
theorem mr {P:Program} {w:World} {K:PySem.W.Frag} {tg:Expr} (z:Str) (it:Addr) (T:String) (tk0:Tok) (hT:T="str_ascii_iterator"∨T="str_iterator"):Turn P w K tg (Its z) [it] it (fun i h=>h.IsStrIter it T z tk0 i) where
 mem:=by simp
 obj:=fun i h st b hb=>by
   have e:b=it:=by simpa using hb
   subst e
   obtain ⟨o,e,c,d⟩:=st
   exact ⟨o,e,fun v z=>by rw [d] at z; cases z⟩
 keep:=fun i h h' ⟨o,e,r⟩ k=>⟨o,k it (by simp) o e,r⟩
 item:=by
   intro X hP hw hK hc i pins s σ H E I hf st hg
   subst hP hw hK
   obtain ⟨f0,f1,f2,f3,f4,f5⟩:=hf it (by simp)
   have hi:i < z.cps.size:=hg
   have hx:z.cps[i]?=some z.cps[i]:=by simp [hi]
   have fin:∀ h',h'.IsStrIter it T z tk0 (i+1)->Heap.SameBut it s.heap h'->∃ u,some (Value.str ⟨#[z.cps[i]]⟩ s.toks)=some u /\
       wpAny (model X.prog X.w) X.A (letOwnedTupleGo tg (.ref it) u) (fun _ s2=>YP X pins σ H i (Its z) (fun i h=>h.IsStrIter it T z tk0 i) [it] u s2) E { s with heap:=h',toks:=s.toks+1 }:=fun h' st' sb=>by
     have I1:Inv X pins σ H { s with heap:=h',toks:=s.toks+1 }:=I.turned (fun b o hb e=>(sb.2 b hb).trans e) f0 f1 f3 f4 f5
     obtain ⟨o,e,c,d⟩:=id st'
     refine ⟨_,rfl,jz (s:={ s with heap:=h',toks:=s.toks+1 }) e c d (by rcases hT with rfl | rfl <;> decide) ⟨.str ⟨#[z.cps[i]]⟩,H,I1,⟨s.toks,rfl⟩,⟨rfl,_,by simp [hi],rfl⟩,st',fun b hb=>(hf b hb).1⟩⟩
   rcases hT with rfl | rfl
   · exact wpAny_pyNext_ascii_item st hx fin
   · exact wpAny_pyNext_wide_item st hx fin
 done:=by
   intro X hP hw hK hc i pins s σ H E I hf st hg
   subst hP hw hK
   obtain ⟨f0,f1,f2,f3,f4,f5⟩:=hf it (by simp)
   have hx:z.cps[i]?=none:=by
     have:z.cps.size<=i:=hg
     simp [this]
   rcases hT with rfl | rfl
   · exact wpAny_pyNext_ascii_end (I.ok.hd hc) st hx fun h' eb=>⟨rfl,I.turned (t':=s.toks) (fun b o hb e=>eb b o hb e) f0 f1 f3 f4 f5⟩
   · exact wpAny_pyNext_wide_end (I.ok.hd hc) st hx fun h' eb=>⟨rfl,I.turned (t':=s.toks) (fun b o hb e=>eb b o hb e) f0 f1 f3 f4 f5⟩
 self:=fun _ _ _ _ _ st h=>by
   rcases hT with rfl | rfl
   · exact wpAny_pyIter_striter_ascii st h
   · exact wpAny_pyIter_striter_wide st h
noncomputable def wr (K:PySem.W.Frag) (tl:TE):TI:=fun σ H R=>tl σ H fun x H1=>match x with
 | .str z=>R (Its z) H1
 | .ref a=>((∃ xs,SqL K H1 a xs)/\R (Itl K a) H1)∨((∃ xs,SqT K H1 a xs)/\R (Itt K a) H1)
 | _=>False
theorem AD {l:Expr} {tl:TE} (hl:PE X l tl):PI X tg l (wr X.K tl):=by
 intro pins s σ H R I h
 refine thn (hl pins s σ H _ I h) fun v s1 ⟨x,H1,I1,r1,q1⟩=>?_
 try dsimp only at q1
 split at q1
 · rename_i z
   obtain ⟨t,rfl⟩:=r1
   have fp:∀ b ∈ [s1.heap.objs.size],eO X pins H1 b:=fun b hb=>by
     obtain rfl:b=s1.heap.objs.size:=by simpa using hb
     exact I1.fpOk (Z10 _) (I1.hok.fresh (Z10 _))
   cases ha:z.cps.all (· < 128)
   · exact wpAny_pyIter_wide ha ⟨s1.heap.objs.size,[s1.heap.objs.size],_,_,H1,rfl,I1.kept (t':=s1.toks) fun b o e=>Z7 _ e,mr z _ "str_iterator" t (.inr rfl),⟨_,Z20 _ rfl,rfl,rfl⟩,fp,q1⟩
   · exact wpAny_pyIter_ascii ha ⟨s1.heap.objs.size,[s1.heap.objs.size],_,_,H1,rfl,I1.kept (t':=s1.toks) fun b o e=>Z7 _ e,mr z _ "str_ascii_iterator" t (.inl rfl),⟨_,Z20 _ rfl,rfl,rfl⟩,fp,q1⟩
 · rename_i a
   cases r1
   rcases q1 with ⟨⟨xs,hq⟩,q⟩ | ⟨⟨xs,hq⟩,q⟩
   · obtain ⟨its,rv,p,hz⟩:=I1.list hq
     refine wpAny_pyIter_list p.isList ⟨s1.heap.objs.size,[s1.heap.objs.size],_,_,H1,rfl,I1.kept (t':=s1.toks) fun b o e=>Z7 _ e,qt a _,⟨_,Z20 _ rfl,rfl,rfl⟩,fun b hb=>?_,q⟩
     obtain rfl:b=s1.heap.objs.size:=by simpa using hb
     exact I1.fpOk (Z10 _) (I1.hok.fresh (Z10 _))
   · obtain ⟨its,rv,p,hz⟩:=I1.tuple hq
     refine wpAny_pyIter_tuple (show s1.heap.IsTuple a its.toArray from p) ⟨s1.heap.objs.size,[s1.heap.objs.size],_,_,H1,rfl,I1.kept (t':=s1.toks) fun b o e=>Z7 _ e,nL a _,⟨_,Z20 _ rfl,rfl,rfl⟩,fun b hb=>?_,q⟩
     obtain rfl:b=s1.heap.objs.size:=by simpa using hb
     exact I1.fpOk (Z10 _) (I1.hok.fresh (Z10 _))
 · exact q1.elim
end
noncomputable def qH (K:PySem.W.Frag) (xs:List V) (H:Hp) (Q:VK):Prop:=∃ x n,xs=[x]/\CA K x H n/\Q (.int (n:Nat)) H
noncomputable def TyK (K:PySem.W.Frag) (H:Hp):V->String->Prop
 | .non,T=>T="NoneType"
 | .bl _,T=>T="bool"
 | .int _,T=>T="int"
 | .str _,T=>T="str"
 | .ref p,T=>(T="tuple"/\∃ xs,SqT K H p xs)∨(T="list"/\∃ xs,SqL K H p xs)
 | _,_=>False
noncomputable def tI (K:PySem.W.Frag) (xs:List V) (H:Hp) (Q:VK):Prop:=∃ x c T,xs=[x,.ty c]/\TyK K H x T/\c ∈ ["bool","int","str","list","tuple"]/\Q (.bl (n9 T c)) H
noncomputable def kT (K:PySem.W.Frag) (xs:List V) (H:Hp) (Q:VK):Prop:=∃ p ys,xs=[.ref p]/\((SqL K H p ys/\∀ l,H l=none->Q (.ref l) (upd H l (.tup ys)))∨(SqT K H p ys/\Q (.ref p) H))
noncomputable def za (xs:List V) (H:Hp) (Q:VK):Prop:=(∃ i,xs=[.int i]/\Q (.int i) H)∨∃ k,xs=[.bl k]/\Q (.int (if k then 1 else 0)) H
noncomputable def AE:R2:=fun x y H Q=>y=.non/\Q (.bl (decide (x=.non))) H
noncomputable def tJ:R2:=fun x y H Q=>y=.non/\Q (.bl (!decide (x=.non))) H
section
variable {X:Cx}
theorem qI:CallR X (.builtin "len") (qH X.K):=sG
theorem og:CallR X (.builtin "isinstance") (tI X.K):=by
 intro pins s σ H xs us Q I r h
 obtain ⟨x,c,T,rfl,hk,hc,q⟩:=h
 obtain ⟨u,u',rfl,rx,ry⟩:=sF r
 cases ry
 have fin:∀ tk,EP X pins σ Q (.bool (n9 T c)) { s with toks:=tk }:=fun tk=>⟨.bl _,H,I.tok _,rfl,q⟩
 cases x with
 | non=>cases hk; exact dQ I rx (.non:TyOf X.K H .non _) (dW X.K _ (by simp [dj]) c hc) fin
 | bl b=>cases hk; exact dQ I rx (.bl b:TyOf X.K H (.bl b) _) (dW X.K _ (by simp [dj]) c hc) fin
 | int i=>cases hk; exact dQ I rx (.int i:TyOf X.K H (.int i) _) (dW X.K _ (by simp [dj]) c hc) fin
 | str i=>cases hk; exact dQ I rx (.str i:TyOf X.K H (.str i) _) (dW X.K _ (by simp [dj]) c hc) fin
 | ref a=>
   cases rx
   rcases hk with ⟨rfl,xs,hq⟩ | ⟨rfl,xs,hq⟩
   · obtain ⟨its,_,⟨o,h1,h2,_⟩,_⟩:=I.tuple hq
     exact PySem.W.kia_one PySem.W.kitx_tuple I.kIn ⟨o,h1,h2⟩ (dW X.K _ (by simp [dj]) c hc) (fun z=>nomatch z) fin
   · obtain ⟨its,_,⟨o,n,h1,h2,_⟩,_⟩:=I.list hq
     exact PySem.W.kia_one PySem.W.kitx_list I.kIn ⟨o,h1,h2⟩ (dW X.K _ (by simp [dj]) c hc) (fun z=>nomatch z) fin
 | _=>exact hk.elim
theorem mt:CallR X (.type "tuple") (kT X.K):=jm
theorem qJ:CallR X (.type "int") za:=qy
theorem pF:OpR X (compareOp .Is) AE:=kM
theorem mv:OpR X (compareOp .IsNot) tJ:=gX
end
section
variable {K:PySem.W.Frag} {σ:St} {H:Hp} {Q:VK} {QB:Bool->Hp->Prop} {D':Ends} {ta tb:TE} {t u:TS} {tt tu:TT} {A B:Prop}
theorem AF {z:Str} (hz:z.length<=sizeLine) (h:Q (.int z.length) H):qH K [.str z] H Q:=⟨_,_,rfl,⟨hz,rfl⟩,h⟩
theorem wt {p:Addr} {xs:List V} (hp:SqT K H p xs) (h:Q (.int xs.length) H):qH K [.ref p] H Q:=⟨_,_,rfl,.inr ⟨xs,hp,rfl⟩,h⟩
end
structure KT (K:PySem.W.Frag):Prop where
section
variable {X:Cx} {K:PySem.W.Frag}
theorem AG {n:Nat} (kt:KT K) (hu:X.A.units+n < cLine) (hK:X.K=K:=by rfl):OpR X (compareOp .Eq) (kS K n false):=hK ▸ AA hu
theorem AH {n:Nat} (kt:KT K) (hu:X.A.units+(n+1) < cLine) (hK:X.K=K:=by rfl):OpR X (compareOp .NotEq) (kS K (n+1) true):=hK ▸ AB hu
theorem qK (kt:KT K) (hK:X.K=K:=by rfl):CallR X (.builtin "len") (qH K):=hK ▸ qI
theorem qL (kt:KT K) (hK:X.K=K:=by rfl):CallR X (.builtin "isinstance") (tI K):=hK ▸ og
theorem my (kt:KT K) (hK:X.K=K:=by rfl):CallR X (.type "tuple") (kT K):=hK ▸ mt
theorem wu {tg l:Expr} {tl:TE} (kt:KT K) (hl:PE X l tl) (hK:X.K=K:=by rfl):PI X tg l (wr K tl):=hK ▸ AD hl
theorem pG {es:List Expr} {k:Nat} {t:TGs} {n:Nat} {pos:Pos} (kt:KT K) (hc:X.calm=true) (h:PGs X es t)
   (hn:(assignEach es X.env).length=n:=by rfl) (hst:(assignEach es X.env).findIdx? (·.1)=none:=by rfl) (hK:X.K=K:=by rfl):PG X (.Tuple es k pos) (lZ K n t):=hK ▸ zZ hc h hn hst
end
noncomputable def ndB:List Str->Bool
 | []=>true
 | a::r=>!(r.any fun b=>a == b) && ndB r
theorem bQ:∀ {l:List Str},ndB l=true->l.Nodup
 | [],_=>List.nodup_nil
 | a::r,h=>by
   simp only [ndB,Z25,Bool.not_eq_true',List.any_eq_false] at h
   exact List.nodup_cons.mpr ⟨fun hm=>h.1 a hm (by simp),bQ h.2⟩
end L2
namespace My
open PySem L2
theorem un4 {k n:Nat} {A:Around} (r:Room k A) (h:n<=150:=by decide):A.units+n < cLine:=by have:=r.un; lia
theorem iC (H:Hp) (l:Addr) (o:HO):∃ H',upd H l o=H'/\But l H H'/\H' l=some o:=⟨_,rfl,fun b u hb e=>by rw [au hb]; exact e,ar⟩
theorem aN {K:PySem.W.Frag} {H H':Hp} (s:Same H H'):aT K H H':=(Same.stay s).1
end My
namespace L2
open PySem PySem.Spec PyProof.Rows
section
variable {X:Cx} {pins:List (Addr × Obj)} {σ:St} {H:Hp} {s:Shared} {h':Heap}
theorem Inv.turnedL {t':Nat} {ch:List Addr} (I:Inv X pins σ H s) (k:∀ b o,b ∉ ch->s.heap.get? b=some o->h'.get? b=some o) (hf:∀ b ∈ ch,eO X pins H b):Inv X pins σ H { s with heap:=h',toks:=t' }:=by
 have nit:∀ b u,H b=some u->b ∉ ch:=fun b u e z=>by rw [(hf b z).1] at e; cases e
 refine I.step (g':=s.gens) (d':=s.drawn) (ch:=ch) (fun b hb=>?_) (fun b o _ _ hc e _=>k b o hc e) (fun b o _ _ hc e _=>⟨o.slots,k b o hc e⟩) (fun _ _ _ _ n=>n)
   (fun b o hc e=>⟨o,k b o hc e⟩) (fun _ _ e=>e) (fun _ _ _ e=>e) (fun b ps e=>⟨#[],by rw [e]; simp⟩) (fun m hm=>?_) (fun b u e=>?_) I.bare
 · obtain ⟨f0,f1,f2,f3,f4,f5⟩:=hf b hb
   exact ⟨f3,f1,f4,f5⟩
 · obtain ⟨o,es,ep,ho,r⟩:=hm
   exact ⟨o,es,ep,k _ o (fun z=>(hf _ z).2.1 rfl) ho,r⟩
 · refine (I.hok b u e).stay (fun c v hc q=>k c v ?_ q) (fun _ q=>q) fun _ _ q=>q
   rcases hc with z | z
   · rw [z]; exact nit b u e
   · exact nit c _ z
end
noncomputable def pH (r r' r'':R2) (ta tb tc td:TE):TT:=fun σ H Q=>ta σ H fun x H1=>tb σ H1 fun y H2=>r x y H2 fun z H3=>∃ k,z=.bl k /\
 (if k=true then tc σ H3 fun w H4=>r' y w H4 fun z' H5=>∃ k',z'=.bl k'/\(if k'=true then td σ H5 fun u H6=>r'' w u H6 fun z2 H7=>∃ k2,z2=.bl k2/\Q k2 H7 else Q false H5) else Q false H3)
section
variable {X:Cx} {a b c d:Expr} {ta tb tc td:TE} {pos:Pos}
theorem qM {op op' op'':CmpOp} {r r' r'':R2} (ho:OpR X (compareOp op) r) (ho':OpR X (compareOp op') r') (ho'':OpR X (compareOp op'') r'') (ha:PE X a ta) (hb:PE X b tb) (hc:PE X c tc) (hd:PE X d td)
   (hm:lastMarks [op,op',op''] [b,c,d]=false:=by with_unfolding_all rfl):PT X (.Compare a [op,op',op''] [b,c,d] pos) (pH r r' r'' ta tb tc td):=by
 intro pins s σ H Q I h
 refine isTrue_chain (thn (ha pins s σ H _ I h) fun v s1 ⟨x,H1,I1,r1,q1⟩=>test_link (thn (hb pins s1 σ H1 _ I1 q1) fun u s2 ⟨y,H2,I2,r2,q2⟩=>
   thn (ho pins s2 σ H2 x y v u _ I2 r1 r2 q2) fun d1 s3 ⟨z,H3,I3,r3,k,e,q3⟩=>?_)) hm
 subst e
 cases r3
 refine wpAny_truthy_bool ?_
 cases k with
 | false=>exact ite_ff ⟨H3,I3,q3⟩
 | true=>
   refine ite_tt (test_link (thn (hc pins s3 σ H3 _ I3 q3) fun w' s4 ⟨z',H4,I4,r4,q4⟩=>thn (ho' pins s4 σ H4 y z' u w' _ I4 r2 r4 q4) fun d' s5 ⟨z2,H5,I5,r5,k2,e2,q5⟩=>?_))
   subst e2
   cases r5
   refine wpAny_truthy_bool ?_
   cases k2 with
   | false=>exact ite_ff ⟨H5,I5,q5⟩
   | true=>
     refine ite_tt (test_last (thn (hd pins s5 σ H5 _ I5 q5) fun w2 s6 ⟨z3,H6,I6,r6,q6⟩=>thn (ho'' pins s6 σ H6 z' z3 w' w2 _ I6 r4 r6 q6) fun d2 s7 ⟨z4,H7,I7,r7,k3,e3,q7⟩=>?_))
     subst e3
     cases r7
     exact wpAny_truthy_bool ⟨H7,I7,q7⟩
end
section
variable {X:Cx} {K:PySem.W.Frag}
theorem iD:∀ {ys:List Str} {its:List Value},Vals (ys.map V.str) its->StrsAre its ys
 | [],_,h=>by
   rw [List.map_nil] at h
   cases h
   exact .nil
 | y::r,_,h=>by
   rw [Z6] at h
   cases h with
   | cons p q=>
     obtain ⟨t,rfl⟩:=p
     exact .cons y t (iD q)
noncomputable def zb (K:PySem.W.Frag):V->List V->Hp->VK->Prop:=fun x vs H Q=>∃ (z:Str) (l:Addr) (ys:List Str),x=.str z/\vs=[.ref l]/\SqL K H l (ys.map V.str)/\(ys.map (·.length)).sum+ys.length * z.length<=16777216/\Q (.str (Txt.join z ys)) H
theorem ww (kt:KT K) (hK:X.K=K:=by rfl):MtR X "str.join" (zb K):=by
 subst hK
 intro pins s σ H x vs v us Q I rx rv h
 obtain ⟨z,l,ys,rfl,rfl,hq,hz,q⟩:=h
 obtain ⟨t,rfl⟩:=rx
 obtain ⟨u,rfl,ru⟩:=dh rv
 cases ru
 obtain ⟨its,r,pl,_⟩:=I.list hq
 exact join_list pl.isList (by simpa using iD r) hz fun t' k=>⟨.str _,H,I.tok _,⟨_,rfl⟩,q⟩
end
theorem oh:∀ l:List Str,(Txt.join Str.empty l).cps.toList=(l.map (·.cps.toList)).flatten:=by
 intro l
 show (Builtin.Str.glued Str.empty l).cps.toList=_
 rw [StrLaws.glued_eq_join]
 induction l with
 | nil=>rfl
 | cons x r ih=>
   cases r with
   | nil=>show x.cps.toList=_; simp
   | cons y t=>
     show (x++Str.empty++Str.join Str.empty (y::t)).cps.toList=_
     rw [Z6,Z39,<- ih]
     show (x.cps++#[]++(Str.join Str.empty (y::t)).cps).toList=_
     simp
end L2
set_option maxHeartbeats 1000000
namespace L2
open PySem PySem.Spec PyProof.Rows
section
variable {X:Cx} {K:PySem.W.Frag}
noncomputable def dq (z:Str):List V:=z.cps.toList.map fun c=>V.str ⟨#[c]⟩
theorem oj {z:Str} {acc:Array Value} (h:ItemsOf (SignAt z) acc z.cps.size):Vals (dq z) acc.toList:=by
 obtain ⟨h1,h2⟩:=h
 have go:∀ (cs:List Nat) (vs:List Value),cs.length=vs.length->(∀ (j:Nat) (v:Value),vs[j]?=some v->∃ c u,cs[j]?=some c/\v=.str ⟨#[c]⟩ u)->Vals (cs.map fun c=>V.str ⟨#[c]⟩) vs:=by
   intro cs
   induction cs with
   | nil=>
     intro vs hl _
     cases vs with
     | nil=>exact .nil
     | cons v r=>simp at hl
   | cons c r ih=>
     intro vs hl hv
     cases vs with
     | nil=>simp at hl
     | cons v t=>
       obtain ⟨c',u,e1,e2⟩:=hv 0 v rfl
       simp at e1
       subst e1
       refine .cons ⟨u,e2⟩ (ih t (by simpa using hl) fun j v' hj=>?_)
       simpa using hv (j+1) v' (by simpa using hj)
 refine go z.cps.toList acc.toList (by simp [h1]) fun j v hj=>?_
 obtain ⟨c,u,e1,e2⟩:=h2 j v (by simpa using hj)
 exact ⟨c,u,by simpa using e1,e2⟩
noncomputable def zc (xs:List V) (H:Hp) (Q:VK):Prop:=∃ z,xs=[.str z]/\z.length<=sizeLine/\∀ l,H l=none->Q (.ref l) (upd H l (.tup (dq z)))
theorem qN (hc:X.calm=true):CallR X (.type "tuple") zc:=by
 intro pins s σ H xs us Q I r h
 obtain ⟨z,rfl,hz,q⟩:=h
 obtain ⟨u,rfl,t,rfl⟩:=dh r
 refine call_tuple_str (I.ok.hd hc) z t (hsz:=hz) fun h' tk acc kp hI=>?_
 have rv:=oj hI
 have I1:Inv X pins σ H { s with heap:=h',toks:=tk }:=I.kept kp
 have I2:Inv X pins σ (upd H h'.objs.size (.tup (dq z))) { s with heap:=h'.push { cls:=.type "tuple",data:=.seq acc },toks:=tk }:=by
   refine I1.laid (t':=tk) (fun b o e=>Z7 _ e) (Z10 _) (show ObjOk X.prog X.w _ _ _ (.tup (dq z)) from ⟨?_,acc.toList,rv,?_⟩)
   · unfold dq
     rw [Z2,Array.length_toList]
     exact hz
   · simpa using IsTup.new h' acc
 exact ⟨.ref h'.objs.size,_,I2,rfl,q _ (I1.hok.fresh (Z10 _))⟩
noncomputable def CO:V->Option Int->Option Int->Hp->VK->Prop:=fun x lo hi H Q=>∃ z,x=.str z/\z.length<=sizeLine/\Q (.str (Txt.slice z lo hi)) H
theorem pI {v:Value} {o:Option Int} (h:IsPart v o):∃ q:Option (Int × Tok),v=partValue q/\q.map (·.1)=o:=by
 cases h with
 | none=>exact ⟨none,rfl,rfl⟩
 | int i t=>exact ⟨some (i,t),rfl,rfl⟩
theorem sl_str:SlR X CO:=by
 intro pins s σ H x v vl vu lo hi sl Q I rx hs pl pu h
 obtain ⟨z,rfl,hz,q⟩:=h
 obtain ⟨t,rfl⟩:=rx
 obtain ⟨a,rfl,ea⟩:=pI pl
 obtain ⟨b,rfl,eb⟩:=pI pu
 refine ⟨"str",_,PySem.F.slot_str_getitem.lookup,typeIs_str _ _ _,?_⟩
 refine wpAny_getItem_str_slice (l:=a) (u:=b) (st:=none) hs rfl ?_
 subst ea eb
 exact post_val_or_str ⟨Z24 (Txt.slice_le z _ _) hz,fun t' k=>⟨.str _,H,I.tok _,⟨t',rfl⟩,q⟩⟩
end
section
variable {X:Cx} {pins:List (Addr × Obj)} {σ:St} {H:Hp} {s:Shared} {h':Heap}
theorem Inv.pairNew {t':Nat} {ch:List Addr} {u v:Value} {x y:V} (I:Inv X pins σ H s) (kk:∀ b o,b ∉ ch->s.heap.get? b=some o->h'.get? b=some o) (hf:∀ b ∈ ch,eO X pins H b)
   (sz:h'.get? s.heap.objs.size=some { cls:=.type "tuple",data:=.seq #[u,v] }) (ru:RelV x u) (rv:RelV y v):Inv X pins σ (upd H s.heap.objs.size (.tup [x,y])) { s with heap:=h',toks:=t' }:=by
 have fresh:H s.heap.objs.size=none:=I.hok.fresh (Z10 _)
 have I1:Inv X pins σ H { s with heap:=h',toks:=t' }:=I.turnedL kk hf
 refine I.step (g':=s.gens) (d':=s.drawn) (t':=t') (h':=h') (ch:=ch) (fun c hc=>?_) (fun c o _ _ hc e _=>kk c o hc e) (fun c o _ _ hc e _=>⟨o.slots,kk c o hc e⟩) (fun c o hc e n=>?_) (fun c o hc e=>⟨o,kk c o hc e⟩) (fun c xs e=>?_) (fun c o xs e=>?_) (fun c ps e=>?_) (fun m hm=>?_) (fun c o e=>?_) I.bare
 · obtain ⟨f0,f1,f2,f3,f4,f5⟩:=hf c hc
   exact ⟨f3,f1,f4,f5⟩
 · rw [au (Z26 (Z13 e))]; exact n
 · rw [au (aw e fresh)]; exact e
 · rw [au (aw e fresh)]; exact e
 · exact ⟨#[],by rw [au (aw e fresh),e]; simp⟩
 · obtain ⟨o,es,ep,ho,r⟩:=hm
   exact ⟨o,es,ep,kk _ o (fun q=>(hf _ q).2.1 rfl) ho,r⟩
 · by_cases hcs:c=s.heap.objs.size
   · subst hcs
     rw [ar] at e
     cases e
     exact ⟨by show 2<=sizeLine; decide,[u,v],.cons ru (.cons rv .nil),⟨_,sz,rfl,_,rfl⟩⟩
   · rw [au hcs] at e
     exact (I1.hok c o e).stay (fun _ _ _ q=>q) (fun b q=>by rw [au (aw q fresh)]; exact q) fun b xs q=>by rw [au (aw q fresh)]; exact q
end
noncomputable abbrev NK:=Option (List Int)
noncomputable def nkH:NK->Int
 | none=>4238894112
 | some ks=>reduceHash (Builtin.Tuple.tupleHashOf (ks.map hashInt))
noncomputable def kIs (P:Program) (w:World) (h:Heap):NK->Value->Prop
 | none,u=>u=.none
 | some ks,u=>∃ b,u=.ref b/\IsTupleKey (aI P w) h (ks.map Sum.inl) b
noncomputable def mz (x:NK × Value × Value):DictEntry:=⟨nkH x.1,x.2.1,x.2.2⟩
section
variable {P:Program} {w:World} {A:Around} {E:Value->Shared->Prop} {s:Shared}
theorem tkh (ks:List Int):tupleKeyHash (aI P w) (ks.map Sum.inl)=nkH (some ks):=by
 unfold tupleKeyHash nkH
 rw [Z31]
 rfl
theorem qO {Q:Int->Shared->Prop} (q:Q 4238894112 { s with toks:=s.toks+1 }):wpAny (model P w) A (pyHash .none) Q E s:=by
 have ty:s.TypeIs .none "NoneType":=rfl
 unfold pyHash pyHashByItsType
 refine Z55 ?_
 rw [cRoomFor,if_neg (show ¬ [Value.none].any Value.onHeap=true from Z28)]
 refine Z56 (Z55 (wpAny_specialOf ty PySem.F.slot_NoneType_hash.lookup ?_))
 rw [if_neg (show ¬ (some (Value.builtin "NoneType.__hash__") == some Value.none)=true by rw [beq_builtin_none]; exact Z28)]
 refine Z55 (wpAny_specialOf ty PySem.F.slot_NoneType_hash.lookup ?_)
 show wpAny _ _ (callSpecialIfBoundUnlessNone? .none "__hash__" _ >>= _) Q E s
 refine Z55 (wpAny_callSpecialIfBoundUnlessNone?_slot ty PySem.F.slot_NoneType_hash (wpAny_call_entry PySem.F.slot_NoneType_hash ty PySem.F.entry_NoneType_hash (show wpAny _ _ (do ret (<- mkInt 4238894112)) _ _ s from wpAny_ret_mkInt ?_) (PySem.F.args_NoneType_hash_1 _)))
 show wpAny _ _ (if (decide (-(2:Int) ^ 63<=4238894112) && decide ((4238894112:Int) < 2 ^ 63))=true then _ else _) Q E _
 rw [if_pos (by decide)]
 exact Z56 q
theorem kIs.inj {h:Heap} {k l:NK} {u:Value} (a:kIs P w h k u) (b:kIs P w h l u):k=l:=by
 cases k with
 | none=>
   cases l with
   | none=>rfl
   | some ls=>obtain ⟨_,z,_⟩:=b; rw [show u=.none from a] at z; cases z
 | some ks=>
   obtain ⟨p,rfl,a⟩:=a
   cases l with
   | none=>cases (show Value.ref p=.none from b)
   | some ls=>
     obtain ⟨q,z,b⟩:=b
     cases z
     have:=a.inj b
     rw [(List.map_inj_right fun _ _ z=>Sum.inl.inj z).mp this]
theorem kIs.hash {k:NK} {u:Value} {Q:Int->Shared->Prop} (hu:A.units < cLine) (a:kIs P w s.heap k u) (q:∀ n,Q (nkH k) { s with toks:=s.toks+n }):wpAny (model P w) A (pyHash u) Q E s:=by
 cases k with
 | none=>cases (show u=.none from a); exact qO (q 1)
 | some ks=>
   obtain ⟨b,rfl,a⟩:=a
   exact wpAny_pyHash_tuple hu a (by rw [tkh]; exact q _)
theorem IsTupleKey.tup {K:Type} [DecidableEq K] {knd:KeyKind P w K} {h:Heap} {ks:List K} {b:Addr} (a:IsTupleKey knd h ks b):∃ its,h.IsTuple b its:=by
 obtain ⟨o,its,n,h1,h2,h3,_⟩:=a
 exact ⟨its,o,h1,h2,n,h3⟩
theorem kIs.eq {k l:NK} {u v:Value} {Q:Bool->Shared->Prop} (hu:A.units < cLine) (a:kIs P w s.heap k u) (b:kIs P w s.heap l v) (q:Q (decide (k=l)) s):wpAny (model P w) A (eqBool u v) Q E s:=by
 cases k with
 | none=>
   cases (show u=.none from a)
   cases l with
   | none=>
     cases (show v=.none from b)
     exact SeqAt.EqAt.same _ _ _ _ _ (by simpa using q)
   | some ls=>
     obtain ⟨p,rfl,b⟩:=b
     obtain ⟨its,b⟩:=IsTupleKey.tup b
     exact SeqAt.EqAt.none_tuple b hu _ _ _ _ (by simpa using q)
 | some ks=>
   obtain ⟨p,rfl,a⟩:=a
   cases l with
   | none=>
     cases (show v=.none from b)
     obtain ⟨its,a⟩:=IsTupleKey.tup a
     exact SeqAt.EqAt.tuple_none a hu _ _ _ _ (by simpa using q)
   | some ls=>
     obtain ⟨r,rfl,b⟩:=b
     refine wpAny_eqBool_tuple hu a b ?_
     have e:decide (ks.map (Sum.inl:Int->Key)=ls.map Sum.inl)=decide ((some ks:NK)=some ls):=by
       by_cases z:ks=ls
       · subst z; simp
       · rw [decide_eq_false (fun y=>z (Z27 y)),decide_eq_false (fun y=>z ((List.map_inj_right fun _ _ z=>Sum.inl.inj z).mp y))]
     rw [e]
     exact q
theorem kIs.quiet {k:NK} {u:Value} {Q:Bool->Shared->Prop} (a:kIs P w s.heap k u) (q:Q true s):wpAny (model P w) A (eqIsQuiet 8 u) Q E s:=by
 cases k with
 | none=>cases (show u=.none from a); unfold eqIsQuiet; exact Z56 q
 | some ks=>obtain ⟨b,rfl,a⟩:=a; exact wpAny_eqIsQuiet_tuple a q
theorem kIs.keeps {h h':Heap} {k:NK} {u:Value} {d:Addr} {o:Obj} {es ep} (a:kIs P w h k u) (ho:h.get? d=some o) (hd:o.data=.dict es ep) (hs:Heap.SameBut d h h'):kIs P w h' k u:=by
 cases k with
 | none=>exact a
 | some ks=>obtain ⟨b,rfl,a⟩:=a; exact ⟨b,rfl,a.keeps ho hd hs⟩
end
section
variable {P:Program} {w:World} {A:Around} {E:Value->Shared->Prop} {s:Shared}
structure NAt (P:Program) (w:World) (h:Heap) (d:Addr) (xs:List (NK × Value × Value)) (o:Obj) (es:Array DictEntry) (ep:Nat):Prop where
 ho:h.get? d=some o
 hx:o.ExactDict
 hd:o.data=.dict es ep
 he:es.toList=xs.map mz
 ks:∀ x ∈ xs,kIs P w h x.1 x.2.1
 nd:(xs.map (·.1)).Nodup
theorem NAt.at {h:Heap} {d:Addr} {xs:List (NK × Value × Value)} {o:Obj} {es:Array DictEntry} {ep:Nat} (N:NAt P w h d xs o es ep) (j:Nat):es[j]?=(xs[j]?).map mz:=by
 rw [<- Array.getElem?_toList,N.he,Z21]
theorem NAt.size {h:Heap} {d:Addr} {xs:List (NK × Value × Value)} {o:Obj} {es:Array DictEntry} {ep:Nat} (N:NAt P w h d xs o es ep):es.size=xs.length:=by
 rw [<- Array.length_toList,N.he,Z2]
theorem NAt.uniq {h:Heap} {d:Addr} {xs:List (NK × Value × Value)} {o:Obj} {es:Array DictEntry} {ep:Nat} (N:NAt P w h d xs o es ep) {i j:Nat} {k:NK} {p q:Value × Value} (a:xs[i]?=some (k,p)) (b:xs[j]?=some (k,q)):i=j:=by
 have a':(xs.map (·.1))[i]?=some k:=by rw [Z21,a]; rfl
 have b':(xs.map (·.1))[j]?=some k:=by rw [Z21,b]; rfl
 exact (List.getElem?_inj (Z9.mp a').1 N.nd).mp (a'.trans b'.symm)
theorem mD {u:Value} {k:NK} {st:List Value} {Q:Bool->Shared->Prop} (hk:kIs P w s.heap k u) (hst:∀ v ∈ st,∃ l,kIs P w s.heap l v) (q:Q false s):wpAny (model P w) A (tableMayTell u st) Q E s:=by
 unfold tableMayTell
 split
 · exact Z56 q
 · refine Z55 (hk.quiet ?_)
   rw [if_neg (by decide)]
   refine Z55 (wpAny_forIn_list _ (fun aY r s'=>s'=s/\r=(none,())/\∀ v ∈ aY,∃ l,kIs P w s.heap l v) _ ?_ ?_ _ _ ⟨rfl,rfl,hst⟩)
   · rintro x aY r s' ⟨rfl,rfl,hr⟩
     obtain ⟨l,hl⟩:=hr x Z16
     refine Z55 (hl.quiet ?_)
     rw [if_neg (by decide)]
     exact Z56 ⟨rfl,rfl,fun v hv=>hr v (Z8 _ hv)⟩
   · rintro r s' ⟨rfl,rfl,_⟩
     exact Z56 q
noncomputable def hOf (es:Array DictEntry) (c:Int) (i:Nat):Bool:=(es[i]?.map (·.hash)) == some c
noncomputable def Er (xs:List (NK × Value × Value)) (k:NK) (i:Nat):Prop:=∀ j p,j < i->xs[j]? ≠ some (k,p)
noncomputable def Stand (es:Array DictEntry) (xs:List (NK × Value × Value)) (k:NK) (aY:List Nat) (hit:Option Nat):Prop:=∃ i,aY=(List.range' i (es.size - i)).filter (hOf es (nkH k))/\i<=es.size/\((hit=none/\Er xs k i)∨∃ j p,hit=some j/\j < i/\xs[j]?=some (k,p))
section
variable {d:Addr} {xs:List (NK × Value × Value)} {o:Obj} {es:Array DictEntry} {ep:Nat} {k:NK}
theorem NAt.has (N:NAt P w s.heap d xs o es ep) {j:Nat} {p:Value × Value} (h:xs[j]?=some (k,p)):hOf es (nkH k) j=true:=by
 unfold hOf
 rw [N.at j,h]
 simp [mz]
theorem Stand.start (N:NAt P w s.heap d xs o es ep):Stand es xs k (placesWithHash es.size (fun i=>es[i]?.map (·.hash)) (nkH k)) none:=by
 refine ⟨0,?_,Z30 _,.inl ⟨rfl,fun j p h=>absurd h (Nat.not_lt_zero _)⟩⟩
 rw [placesWithHash,List.range_eq_range',Nat.sub_zero]
 rfl
theorem Stand.turn (N:NAt P w s.heap d xs o es ep) {x:Nat} {aY:List Nat} {hit:Option Nat} (S:Stand es xs k (x::aY) hit):∃ k' u v,xs[x]?=some (k',u,v)/\es[x]?=some ⟨nkH k',u,v⟩/\nkH k'=nkH k/\kIs P w s.heap k' u /\
   (k'=k->hit=none/\Stand es xs k aY (some x))/\(k' ≠ k->Stand es xs k aY hit):=by
 obtain ⟨i,hr,hi,hH⟩:=S
 obtain ⟨a1,a2,a3,a4,a5⟩:=filter_range'_cons _ _ _ _ _ hr.symm
 have hlt:x < es.size:=by omega
 have hlx:x < xs.length:=by rw [<- N.size]; exact hlt
 obtain ⟨⟨k',u,v⟩,hx⟩:∃ y,xs[x]?=some y:=⟨_,Z3 hlx⟩
 have ex:es[x]?=some ⟨nkH k',u,v⟩:=by rw [N.at x,hx]; rfl
 have hh:nkH k'=nkH k:=by
   unfold hOf at a3
   rw [ex] at a3
   simpa using a3
 have rst:aY=(List.range' (x+1) (es.size - (x+1))).filter (hOf es (nkH k)):=by rw [a5]; congr 2; omega
 have skip:∀ j p,i<=j->j < x->xs[j]? ≠ some (k,p):=fun j p z1 z2 z3=>by
   have:=a4 j z1 z2
   rw [N.has z3] at this
   cases this
 have ks:kIs P w s.heap k' u:=N.ks _ (List.mem_of_getElem? hx)
 refine ⟨k',u,v,hx,ex,hh,ks,fun z=>?_,fun z=>?_⟩
 · subst z
   refine ⟨?_,x+1,rst,hlt,.inr ⟨x,_,rfl,Nat.lt_succ_self x,hx⟩⟩
   rcases hH with ⟨h0,_⟩ | ⟨j,p,_,hj,hp⟩
   · exact h0
   · exact absurd (N.uniq hp hx) (by omega)
 · refine ⟨x+1,rst,hlt,?_⟩
   rcases hH with ⟨h0,h1⟩ | ⟨j,p,h0,hj,hp⟩
   · refine .inl ⟨h0,fun j p hj hp=>?_⟩
     by_cases c1:j < i
     · exact h1 j p c1 hp
     · by_cases c2:j < x
       · exact skip j p (by omega) c2 hp
       · have:j=x:=by omega
         subst this
         rw [hx] at hp
         injection hp with hp
         injection hp with hp
         exact z hp
   · exact .inr ⟨j,p,h0,by omega,hp⟩
theorem Stand.fin (N:NAt P w s.heap d xs o es ep) {hit:Option Nat} (S:Stand es xs k [] hit):(hit=none/\∀ (j:Nat) (p:Value × Value),xs[j]? ≠ some (k,p))∨∃ (j:Nat) (p:Value × Value),hit=some j/\xs[j]?=some (k,p):=by
 obtain ⟨i,hr,hi,hH⟩:=S
 rcases hH with ⟨h0,h1⟩ | ⟨j,p,h0,hj,hp⟩
 · refine .inl ⟨h0,fun j p hp=>?_⟩
   by_cases c:j < i
   · exact h1 j p c hp
   · have hjl:j < es.size:=by rw [N.size]; exact (Z9.mp hp).1
     have:=List.filter_eq_nil_iff.mp hr.symm j (List.mem_range'_1.mpr ⟨by omega,by omega⟩)
     exact this (N.has hp)
 · exact .inr ⟨j,p,h0,hp⟩
theorem zd {u:Value} {Q:Option Nat->Shared->Prop} (hu:A.units < cLine) (hk:kIs P w s.heap k u) (N:NAt P w s.heap d xs o es ep)
   (hno:(∀ (j:Nat) (p:Value × Value),xs[j]? ≠ some (k,p))->Q none s) (hyes:∀ (j:Nat) (p:Value × Value),xs[j]?=some (k,p)->Q (some j) s):wpAny (model P w) A (dictFind d u (nkH k)) Q E s:=by
 have fin:∀ {hit:Option Nat},Stand es xs k [] hit->Q hit s:=fun {hit} S=>by
   rcases Stand.fin N S with ⟨e,h⟩ | ⟨j,p,e,h⟩
   · rw [e]; exact hno h
   · rw [e]; exact hyes j p h
 have st0:=Stand.start (k:=k) N
 have hst:∀ v ∈ (placesWithHash es.size (fun i=>es[i]?.map (·.hash)) (nkH k)).filterMap (fun i=>es[i]?.map (·.key)),∃ l,kIs P w s.heap l v:=fun v hv=>by
   obtain ⟨i,_,hi⟩:=List.mem_filterMap.mp hv
   rw [N.at i] at hi
   cases e:xs[i]? with
   | none=>rw [e] at hi; cases hi
   | some x=>
     rw [e] at hi
     cases hi
     exact ⟨x.1,N.ks x (List.mem_of_getElem? e)⟩
 have any0:∀ b,u=.ref b->¬ (es.any fun e=>e.key == Value.ref b && e.hash != nkH k)=true:=fun b eb hc=>by
   rw [<- Array.any_toList,List.any_eq_true] at hc
   obtain ⟨e,he,hc⟩:=hc
   rw [N.he] at he
   obtain ⟨x,hx,rfl⟩:=Z18.mp he
   simp only [mz,Z25,beq_iff_eq,bne_iff_ne,ne_eq] at hc
   have:=N.ks x hx
   rw [hc.1,<- eb] at this
   exact hc.2 (by rw [this.inj hk])
 have turn:∀ {x:Nat} {aY:List Nat} {hit:Option Nat},Stand es xs k (x::aY) hit->∃ k' v y,xs[x]?=some (k',v,y)/\es[x]?=some ⟨nkH k',v,y⟩/\(nkH k' == nkH k)=true/\kIs P w s.heap k' v/\(k'=k->hit=none/\Stand es xs k aY (some x))/\(k' ≠ k->Stand es xs k aY hit):=fun {x aY hit} S=>by
   obtain ⟨k',v,y,a1,a2,a3,a4,a5,a6⟩:=Stand.turn N S
   exact ⟨k',v,y,a1,a2,by rw [a3]; simp,a4,a5,a6⟩
 unfold dictFind
 try with_reducible refine wpAny_holding ?_
 refine Z55 (wpAny_dictEntries N.ho N.hd ?_)
 generalize nkH k=c at hst st0 any0 turn ⊢
 have plain:wpAny (model P w) A (dictWalkPlain d u c es (placesWithHash es.size (fun i=>es[i]?.map (·.hash)) c)) Q E s:=by
   unfold dictWalkPlain
   refine Z55 (wpAny_forIn_list _ (fun aY b s'=>s'=s/\b=(none,())/\Stand es xs k aY none) _ ?_ ?_ _ _ ⟨rfl,rfl,st0⟩)
   · rintro x aY b s' ⟨rfl,rfl,S⟩
     obtain ⟨k',v,y,hx,ex,hh,ks,t1,t2⟩:=turn S
     rw [ex]
     dsimp only
     rw [if_pos hh]
     refine Z55 (wpAny_dictEpoch N.ho N.hd (Z55 (ks.eq hu hk (Z55 (wpAny_dictEpoch N.ho N.hd ?_)))))
     show wpAny _ _ (if (ep != ep)=true then _ else _) _ E _
     rw [if_neg (by simp)]
     by_cases c:k'=k
     · rw [decide_eq_true c]
       subst c
       exact Z55 (wpAny_rule (Z56 (Z56 (hyes x _ hx))))
     · rw [decide_eq_false c]
       exact Z55 (wpAny_rule (Z56 ⟨rfl,rfl,t2 c⟩))
   · rintro b s' ⟨rfl,rfl,S⟩
     exact Z56 (fin S)
 have hk0:=hk
 have shape:u=.none∨∃ b,u=.ref b:=by
   cases k with
   | none=>exact .inl hk
   | some ks=>obtain ⟨b,e,_⟩:=hk; exact .inr ⟨b,e⟩
 rcases shape with rfl | ⟨b,rfl⟩
 · show wpAny _ _ (if (Value.none::List.filterMap _ _).all carriedByValue=true then _ else _) Q E s
   split
   · exact plain
   by_cases one:(((placesWithHash es.size (fun i=>es[i]?.map (·.hash)) c).filterMap (fun i=>es[i]?.map (·.key))) == [Value.none])=true <;>
   (first | rw [if_pos one] | rw [if_neg one]) <;> (first | refine Z55 (Z56 ?_) | refine Z55 (mD hk0 hst ?_)) <;> (
     show wpAny _ _ (if (false && decide _)=true then _ else _) Q E s
     rw [if_neg (by simp)]
     refine Z55 (wpAny_forIn_list _ (fun aY b s'=>s'=s/\∃ hit,b=(none,hit)/\Stand es xs k aY hit) _ ?_ ?_ _ _ ⟨rfl,none,rfl,st0⟩)
     · rintro x aY b s' ⟨rfl,hit,rfl,S⟩
       obtain ⟨k',v,y,hx,ex,hh,ks,t1,t2⟩:=turn S
       rw [ex]
       dsimp only
       rw [if_pos hh]
       refine Z55 (wpAny_dictEpoch N.ho N.hd (Z55 (ks.eq hu hk0 (Z55 (wpAny_dictEpoch N.ho N.hd ?_)))))
       show wpAny _ _ (if (ep != ep)=true then _ else _) _ E _
       rw [if_neg (by simp)]
       by_cases cc:k'=k
       · rw [decide_eq_true cc]
         obtain ⟨z1,z2⟩:=t1 cc
         subst z1
         subst cc
         first | rw [if_pos rfl] | skip
         simp only [Option.isSome_none,Z47,if_false]
         first | refine Z55 (Z56 ?_) | skip
         refine Z55 (wpAny_rule ?_)
         split
         · exact Z56 (Z56 (hyes x _ hx))
         · exact Z56 ⟨rfl,some x,rfl,z2⟩
       · rw [decide_eq_false cc]
         simp only [Z47,if_false]
         refine Z55 (wpAny_rule ?_)
         first | rw [if_neg (by simp)] | skip
         first
           | exact Z56 ⟨rfl,hit,rfl,t2 cc⟩
           | exact Z55 (Z56 (Z56 ⟨rfl,hit,rfl,t2 cc⟩))
     · rintro b s' ⟨rfl,hit,rfl,S⟩
       exact Z56 (fin S))
 · dsimp only
   rw [if_neg (by simp [carriedByValue]),if_neg (any0 b rfl)]
   by_cases one:(((placesWithHash es.size (fun i=>es[i]?.map (·.hash)) c).filterMap (fun i=>es[i]?.map (·.key))) == [Value.ref b])=true <;>
   (first | rw [if_pos one] | rw [if_neg one]) <;> (first | refine Z55 (Z56 ?_) | refine Z55 (mD hk0 hst ?_)) <;> (
     show wpAny _ _ (if (false && decide _)=true then _ else _) Q E s
     rw [if_neg (by simp)]
     refine Z55 (wpAny_forIn_list _ (fun aY b s'=>s'=s/\∃ hit,b=(none,hit)/\Stand es xs k aY hit) _ ?_ ?_ _ _ ⟨rfl,none,rfl,st0⟩)
     · rintro x aY b s' ⟨rfl,hit,rfl,S⟩
       obtain ⟨k',v,y,hx,ex,hh,ks,t1,t2⟩:=turn S
       rw [ex]
       dsimp only
       rw [if_pos hh]
       refine Z55 (wpAny_dictEpoch N.ho N.hd (Z55 (ks.eq hu hk0 (Z55 (wpAny_dictEpoch N.ho N.hd ?_)))))
       show wpAny _ _ (if (ep != ep)=true then _ else _) _ E _
       rw [if_neg (by simp)]
       by_cases cc:k'=k
       · rw [decide_eq_true cc]
         obtain ⟨z1,z2⟩:=t1 cc
         subst z1
         subst cc
         first | rw [if_pos rfl] | skip
         simp only [Option.isSome_none,Z47,if_false]
         first | refine Z55 (Z56 ?_) | skip
         refine Z55 (wpAny_rule ?_)
         split
         · exact Z56 (Z56 (hyes x _ hx))
         · exact Z56 ⟨rfl,some x,rfl,z2⟩
       · rw [decide_eq_false cc]
         simp only [Z47,if_false]
         refine Z55 (wpAny_rule ?_)
         first | rw [if_neg (by simp)] | skip
         first
           | exact Z56 ⟨rfl,hit,rfl,t2 cc⟩
           | exact Z55 (Z56 (Z56 ⟨rfl,hit,rfl,t2 cc⟩))
     · rintro b s' ⟨rfl,hit,rfl,S⟩
       exact Z56 (fin S))
end
end
section
variable {P:Program} {w:World} {A:Around} {E:Value->Shared->Prop} {s:Shared} {d:Addr} {xs:List (NK × Value × Value)} {o:Obj} {es:Array DictEntry} {ep:Nat} {k:NK} {u:Value}
noncomputable def gb (xs:List (NK × Value × Value)) (k:NK):Option Value:=(xs.find? fun x=>decide (x.1=k)).map (·.2.2)
theorem jJ (nd:(xs.map (·.1)).Nodup):∀ {j:Nat} {p:Value × Value},xs[j]?=some (k,p)->gb xs k=some p.2:=by
 induction xs with
 | nil=>intro j p h; simp at h
 | cons x r ih=>
   intro j p h
   rw [Z6,List.nodup_cons] at nd
   cases j with
   | zero=>
     simp only [List.getElem?_cons_zero,Option.some.injEq] at h
     subst h
     simp [gb]
   | succ j=>
     simp only [List.getElem?_cons_succ] at h
     have hm:k ∈ r.map (·.1):=Z18.mpr ⟨(k,p),List.mem_of_getElem? h,rfl⟩
     have hne:¬ x.1=k:=fun e=>nd.1 (e ▸ hm)
     have:=ih nd.2 h
     simpa [gb,Z44,hne] using this
theorem qP (h:∀ (j:Nat) (p:Value × Value),xs[j]? ≠ some (k,p)):gb xs k=none:=by
 have:(xs.find? fun x=>decide (x.1=k))=none:=by
   rw [List.find?_eq_none]
   intro x hx hk
   obtain ⟨j,hj⟩:=List.mem_iff_getElem?.mp hx
   exact h j x.2 (by rw [hj,<- of_decide_eq_true hk])
 simp [gb,this]
theorem AI {Q:Option Value->Shared->Prop} (hu:A.units < cLine) (hk:kIs P w s.heap k u) (N:NAt P w s.heap d xs o es ep) (q:∀ n,Q (gb xs k) { s with toks:=s.toks+n }):wpAny (model P w) A (dictGet d u) Q E s:=by
 unfold dictGet
 try with_reducible refine wpAny_holding ?_
 refine Z55 (hk.hash hu fun n=>Z55 (zd (s:={ s with toks:=s.toks+n }) hu hk (N:=⟨N.ho,N.hx,N.hd,N.he,N.ks,N.nd⟩) (fun h=>?_) fun j p h=>?_))
 · have:=q n
   rw [qP h] at this
   exact Z56 this
 · have:=q n
   rw [jJ N.nd h] at this
   refine Z55 (wpAny_dictEntries (s:={ s with toks:=s.toks+n }) N.ho N.hd ?_)
   rw [N.at j,h]
   exact Z56 this
theorem NAt.ty (N:NAt P w s.heap d xs o es ep):s.TypeIs (.ref d) "dict":=⟨o,N.ho,N.hx.1⟩
theorem tK {v:Value} {Q:Value->Shared->Prop} (hu:A.units+1 < cLine) (hk:kIs P w s.heap k u) (N:NAt P w s.heap d xs o es ep) (hv:gb xs k=some v) (q:∀ n,Q v { s with toks:=s.toks+n }):wpAny (model P w) A (getItem (.ref d) u) Q E s:=by
 unfold getItem
 try with_reducible refine wpAny_holding ?_
 refine Z55 (wpAny_sequenceKey N.ty (by decide) (Z55 (wpAny_callSpecial?_slot (name:=Str.ofString "__getitem__") N.ty slot_dict_getitem (wpAny_call_entry slot_dict_getitem N.ty entry_dict_getitem ?_ (args_dict_getitem _ _)))))
 show wpAny _ _ (dictGet d u >>= _) _ _ s
 refine Z55 (AI (A:=A.in1) hu hk N fun n=>?_)
 rw [hv]
 exact Z56 ⟨v,rfl,Z56 (q n)⟩
theorem CP {v:Value} {Q:Unit->Shared->Prop} (hu:A.units < cLine) (hk:kIs P w s.heap k u) (N:NAt P w s.heap d xs o es ep) (hv:gb xs k=none) (hz:xs.length < sizeLine)
   (q:∀ n h',(∃ o' es' ep',NAt P w h' d (xs++[(k,u,v)]) o' es' ep')->Heap.SameBut d s.heap h'->Q () { s with heap:=h',toks:=s.toks+n }):wpAny (model P w) A (dictSet d u v) Q E s:=by
 unfold dictSet
 try with_reducible refine wpAny_holding ?_
 refine Z55 (hk.hash hu fun n=>?_)
 unfold dictSetHashed
 try with_reducible refine wpAny_holding ?_
 refine Z55 (zd (s:={ s with toks:=s.toks+n }) hu hk (N:=⟨N.ho,N.hx,N.hd,N.he,N.ks,N.nd⟩) (fun h=>?_) fun j p h=>?_)
 · refine Z55 (wpAny_rule (wpAny_updateDictKeys (hz:=by rw [N.size]; omega) (s:={ s with toks:=s.toks+n }) N.ho N.hd (q n _ ⟨_,_,ep+1,⟨Heap.get?_update_self _ N.ho (Obj.isFreed_of_dict (Obj.data_mapDictKeys N.hd _)),N.hx.mapDictKeys _,Obj.data_mapDictKeys N.hd _,?_,?_,?_⟩⟩ (Heap.SameBut.update ..))))
   · simp [N.he,mz]
   · intro x hx
     rcases Z11.mp hx with hx | hx
     · exact (N.ks x hx).keeps N.ho N.hd (Heap.SameBut.update ..)
     · rw [Z12] at hx
       subst hx
       exact hk.keeps N.ho N.hd (Heap.SameBut.update ..)
   · rw [Z23,List.nodup_append]
     refine ⟨N.nd,by simp,fun x hx y hy e=>?_⟩
     simp only [Z6,List.map_nil,Z12] at hy
     subst hy
     subst e
     obtain ⟨z,hz,e⟩:=Z18.mp hx
     obtain ⟨j,hj⟩:=List.mem_iff_getElem?.mp hz
     exact h j z.2 (by rw [hj,<- e])
 · rw [jJ N.nd h] at hv
   cases hv
theorem tL {v:Value} {Q:Unit->Shared->Prop} (hu:A.units+1 < cLine) (hk:kIs P w s.heap k u) (N:NAt P w s.heap d xs o es ep) (hv:gb xs k=none) (hz:xs.length < sizeLine)
   (q:∀ n h',(∃ o' es' ep',NAt P w h' d (xs++[(k,u,v)]) o' es' ep')->Heap.SameBut d s.heap h'->Q () { s with heap:=h',toks:=s.toks+n }):wpAny (model P w) A (setItem (.ref d) u v) Q E s:=by
 unfold setItem
 try with_reducible refine wpAny_holding ?_
 refine Z55 (wpAny_sequenceKey N.ty (by decide) (Z55 (wpAny_callSpecial?_slot (name:=Str.ofString "__setitem__") N.ty slot_dict_setitem (wpAny_call_entry slot_dict_setitem N.ty entry_dict_setitem ?_ (args_dict_setitem _ _ _)))))
 show wpAny _ _ (Builtin.Dict.notOrdered "__setitem__" ⟨[.ref d,u,v],[]⟩ >>= _) _ _ s
 refine Z55 (wpAny_notOrdered_dict N.ty ?_)
 show wpAny _ _ (dictSet d u v >>= _) _ _ s
 exact Z55 (CP (A:=A.in1) hu hk N hv hz fun n h' a b=>Z56 ⟨.none,rfl,Z56 (q n h' a b)⟩)
end
noncomputable abbrev KA:=Option (Addr × List Int)
noncomputable def kaV:KA->V
 | none=>.non
 | some p=>.ref p.1
noncomputable def kaU:KA->Value
 | none=>.none
 | some p=>.ref p.1
noncomputable def kaK:KA->NK:=Option.map (·.2)
noncomputable def ge (q:KA × Value):NK × Value × Value:=(kaK q.1,kaU q.1,q.2)
noncomputable def valN (kvs:List (KA × V)) (k:NK):Option V:=(kvs.find? fun kv=>decide (kaK kv.1=k)).map (·.2)
noncomputable def NDf (a:Addr) (o:Obj) (kvs:List (KA × V)):Heap->Prop:=fun h=>(a == sysModules)=false/\kvs.length<=sizeLine/\(kvs.map fun kv=>kaK kv.1).Nodup/\∃ qs:List (KA × Value),KV kvs qs/\∃ es ep,h.get? a=some o/\o.ExactDict/\o.data=.dict es ep/\es.toList=(qs.map ge).map mz
noncomputable def iE (H:Hp) (kvs:List (KA × V)):Prop:=∀ kv ∈ kvs,∀ p,kv.1=some p->H p.1=some (.tup (p.2.map V.int))
noncomputable def ND (H:Hp) (a:Addr) (o:Obj) (kvs:List (KA × V)):Prop:=H a=some (.ext (NDf a o kvs))/\iE H kvs
noncomputable def KyV (H:Hp):V->NK->Prop
 | .non,k=>k=none
 | .ref b,k=>∃ ks,k=some ks/\H b=some (.tup (ks.map V.int))
 | _,_=>False
theorem wx {a:Addr} {o:Obj} {kvs:List (KA × V)} {h1 h2:Heap} (x:NDf a o kvs h1) (e:∀ o,h1.get? a=some o->h2.get? a=some o):NDf a o kvs h2:=by
 obtain ⟨z0,z1,z2,qs,z3,es,ep,z4,z5⟩:=x
 exact ⟨z0,z1,z2,qs,z3,es,ep,e o z4,z5⟩
theorem tM {P:Program} {w:World} {H:Hp} {h:Heap} {a:Addr} {o:Obj} {kvs:List (KA × V)} (x:NDf a o kvs h):ObjOk P w H h a (.ext (NDf a o kvs)):=
 ⟨x,let ⟨_,_,_,_,_,_,_,z,_⟩:=x; ⟨o,z⟩,fun _ _ y e=>wx y e⟩
section
variable {X:Cx} {pins:List (Addr × Obj)} {σ:St} {H:Hp} {s:Shared} {a:Addr} {o:Obj} {kvs:List (KA × V)} {k:NK} {y v:V} {u r:Value} {A:Around} {E:Value->Shared->Prop}
theorem KV.valN:∀ {kvs:List (KA × V)} {qs:List (KA × Value)},KV kvs qs->RelO (L2.valN kvs k) (gb (qs.map ge) k):=by
 intro kvs qs r
 unfold KV at r
 induction r with
 | nil=>exact True.intro
 | @cons p q ps qs h t ih=>
   obtain ⟨h1,h2⟩:=h
   unfold L2.valN gb at ih ⊢
   rw [Z6,Z44,Z44]
   have e:(ge q).1=kaK p.1:=by rw [h1]; rfl
   rw [e]
   by_cases c:kaK p.1=k
   · rw [decide_eq_true c]; exact h2
   · rw [decide_eq_false c]; exact ih
theorem mE {kvs:List (KA × V)} {qs:List (KA × Value)} (r:KV kvs qs):(qs.map ge).map (·.1)=kvs.map fun kv=>kaK kv.1:=by
 unfold KV at r
 induction r with
 | nil=>rfl
 | cons h t ih=>rw [Z6,Z6,Z6,ih,h.1]; rfl
theorem kU (I:Inv X pins σ H s) {b:Addr} {ks:List Int} (e:H b=some (.tup (ks.map V.int))):IsTupleKey (aI X.prog X.w) s.heap (ks.map Sum.inl) b:=
 kR (ks:=ks.map Sum.inl) I.hok (by rw [Z31]; exact e)
theorem KyV.is (I:Inv X pins σ H s) (h:KyV H y k) (r:RelV y u):kIs X.prog X.w s.heap k u:=by
 cases y with
 | non=>cases (show k=none from h); exact r
 | ref b=>
   obtain ⟨ks,rfl,e⟩:=h
   exact ⟨b,r,kU I e⟩
 | _=>exact h.elim
theorem ND.nat (I:Inv X pins σ H s) (n:ND H a o kvs):∃ qs es ep,KV kvs qs/\NAt X.prog X.w s.heap a (qs.map ge) o es ep/\(a == sysModules)=false/\kvs.length<=sizeLine:=by
 obtain ⟨⟨z0,z1,z2,qs,z3,es,ep,z4,z5,z6,z7⟩,_⟩:=(show ObjOk X.prog X.w H s.heap a (.ext (NDf a o kvs)) from I.hok a _ n.1)
 refine ⟨qs,es,ep,z3,⟨z4,z5,z6,z7,?_,by rw [mE z3]; exact z2⟩,z0,z1⟩
 intro x hx
 obtain ⟨q,hq,rfl⟩:=Z18.mp hx
 have key:∀ {l:List (KA × V)} {m:List (KA × Value)},KV l m->(∀ kv ∈ l,∀ p,kv.1=some p->H p.1=some (.tup (p.2.map V.int)))->∀ q ∈ m,kIs X.prog X.w s.heap (kaK q.1) (kaU q.1):=by
   intro l m r
   unfold KV at r
   induction r with
   | nil=>intro _ q hq; cases hq
   | @cons p q' ps qs' h t ih=>
     intro hk q hq
     rcases Z19.mp hq with rfl | hq
     · rw [<- h.1]
       cases e:p.1 with
       | none=>rfl
       | some c=>exact ⟨c.1,rfl,kU I (hk p Z16 c e)⟩
     · exact ih (fun kv hkv=>hk kv (Z8 _ hkv)) q hq
 exact key z3 n.2 q hq
theorem ND.ty (I:Inv X pins σ H s) (n:ND H a o kvs):s.TypeIs (.ref a) "dict":=by
 obtain ⟨qs,es,ep,_,N,_⟩:=n.nat I
 exact N.ty
theorem AJ {Q:Value->Shared->Prop} (hu:A.units+1 < cLine) (I:Inv X pins σ H s) (n:ND H a o kvs) (hk:KyV H y k) (ry:RelV y u) (hv:valN kvs k=some v) (q:∀ u' s',Inv X pins σ H s'->RelV v u'->Q u' s') :
   wpAny (model X.prog X.w) A (getItem (.ref a) u) Q E s:=by
 obtain ⟨qs,es,ep,kv,N,_⟩:=n.nat I
 obtain ⟨u',e',r'⟩:=RelO.some_of (v:=v) (o:=gb (qs.map ge) k) (by rw [<- hv]; exact KV.valN kv)
 exact tK hu (hk.is I ry) N e' fun m=>q u' _ (I.tok _) r'
theorem AK {Q:Unit->Shared->Prop} (hu:A.units+1 < cLine) (I:Inv X pins σ H s) (e:H a=some (.ext (NDf a o kvs))) (ki:iE H kvs) {c:KA} (hc:∀ p,c=some p->H p.1=some (.tup (p.2.map V.int))) (ry:u=kaU c) (hv:valN kvs (kaK c)=none) (hz:kvs.length < sizeLine) (rv:RelV v r)
   (q:∀ o' s',Inv X pins σ (upd H a (.ext (NDf a o' (kvs++[(c,v)])))) s'->Q () s'):wpAny (model X.prog X.w) A (setItem (.ref a) u r) Q E s:=by
 obtain ⟨qs,es,ep,kv,N,z0,z1⟩:=ND.nat I ⟨e,ki⟩
 have hk:kIs X.prog X.w s.heap (kaK c) u:=by
   subst ry
   cases c with
   | none=>rfl
   | some p=>exact ⟨p.1,rfl,kU I (hc p rfl)⟩
 have lq:qs.length=kvs.length:=(Paired.length kv).symm
 have nn:gb (qs.map ge) (kaK c)=none:=RelO.none_of (by rw [<- hv]; exact KV.valN kv)
 refine tL hu hk N nn (by simp; omega) fun m h' ⟨o',es',ep',N'⟩ hs=>q o' _ ?_
 subst ry
 refine gY I (by rw [e]; exact True.intro) hs ⟨o',N'.ho⟩ (tM ⟨z0,by simp; omega,?_,qs++[(c,r)],Paired.snoc kv ⟨rfl,rv⟩,es',ep',N'.ho,N'.hx,N'.hd,?_⟩)
 · have:=N'.nd
   rw [show qs.map ge++[(kaK c,kaU c,r)]=(qs++[(c,r)]).map ge by simp [ge]] at this
   rw [mE (kvs:=kvs++[(c,v)]) (Paired.snoc kv ⟨rfl,rv⟩)] at this
   exact this
 · rw [N'.he]
   simp [ge]
theorem tN {h:Heap} {hb:sysModules < h.objs.size} {P:Program} {w:World}:ObjOk P w H (h.push { cls:=.type "dict",data:=.dict #[] }) h.objs.size (.ext (NDf h.objs.size { cls:=.type "dict",data:=.dict #[] } [])):=
 tM ⟨beq_eq_false_iff_ne.mpr (Ne.symm (Z26 hb)),Z30 _,List.nodup_nil,[],.nil,#[],0,Z20 _ rfl,⟨rfl,rfl,rfl⟩,rfl,rfl⟩
end
section
variable {P:Program} {w:World} {A:Around} {E:Value->Shared->Prop} {s:Shared} {d it:Addr} {o:Obj} {es:Array DictEntry} {ep i:Nat}
theorem CQ {Q:Value->Shared->Prop} (hm:(d == sysModules)=false) (ho:s.heap.get? d=some o) (hx:o.ExactDict) (hd:o.data=.dict es ep)
   (q:Q (.ref s.heap.objs.size) { s with heap:=s.heap.push { cls:=.type "dict_keyiterator",data:=.fields #[.ref d,.int 0 0,.int es.size 0,.int ep 0] } }):wpAny (model P w) A (pyIter (.ref d)) Q E s:=by
 have ty:s.TypeIs (.ref d) "dict":=⟨o,ho,hx.1⟩
 refine wpAny_pyIter_slot ty F.slot_dict_iter (wpAny_call_entry F.slot_dict_iter ty F.entry_dict_iter ?_ (F.args_dict_iter_1 _))
 unfold Builtin.«dict.__iter__»
 refine Z55 ?_
 unfold Builtin.Dict.dictSlotNone
 refine Z55 (wpAny_notOrdered_dict ty ?_)
 show wpAny _ _ (pure (Value.ref d)) _ _ s
 refine Z56 ?_
 show wpAny _ _ (Builtin.Dict.showsAll d >>= _) _ _ s
 unfold Builtin.Dict.showsAll
 rw [if_neg (by rw [hm]; simp)]
 refine Z55 (Z56 (Z55 (wpAny_dictEntries ho hd (Z55 (wpAny_dictEpoch ho hd ?_)))))
 refine Z55 (wpAny_newObj_type (Z56 ⟨_,rfl,"dict_keyiterator",_,⟨_,Z20 _ rfl,rfl⟩,F.slot_dict_keyiterator_next.lookup,?_⟩))
 simpa [rawInt] using q
theorem CS {Q:Option Value->Shared->Prop} (K:s.heap.IsKeyIter it d i es.size ep) (ho:s.heap.get? d=some o) (hd:o.data=.dict es ep) {e:DictEntry} (hi:es[i]?=some e)
   (q:∀ h',h'.IsKeyIter it d (i+1) es.size ep->Heap.SameBut it s.heap h'->Q (some e.key) { s with heap:=h' }):wpAny (model P w) A (pyNext (.ref it)) Q E s:=by
 obtain ⟨oi,hoi,hc,hf⟩:=id K
 obtain ⟨hlt,he⟩:=Array.getElem?_eq_some_iff.mp hi
 unfold pyNext
 refine Z55 (wpAny_attempt (wpAny_callSpecial?_slot (name:=Str.ofString "__next__") K.typeIs F.slot_dict_keyiterator_next (wpAny_call_entry F.slot_dict_keyiterator_next K.typeIs F.entry_dict_keyiterator_next ?_ (F.args_dict_keyiterator_next_1 _))))
 refine Z55 (Z56 (Z55 (Z55 ?_)))
 first | refine Z55 (wpAny_typeNameOfWhole_keyiter K.typeIs (Z56 ?_)) | refine Z55 (wpAny_typeNameOf_keyiter K.typeIs (Z56 ?_))
 refine Z55 (wpAny_fieldsOf hoi hf ?_)
 simp only [show Builtin.Dict_items.ownsTuple "dict_keyiterator"=false by decide,Z47,if_false]
 show wpAny _ _ (if (Value.ref d == Value.none)=true then _ else _) _ _ s
 rw [if_neg (show ¬ ((Value.ref d == Value.none)=true) from nofun)]
 refine Z55 (Z56 (Z55 (wpAny_dictEntries ho hd ?_)))
 rw [if_neg (by simp)]
 refine Z55 (Z56 (Z55 (wpAny_dictEpoch ho hd ?_)))
 rw [if_neg (by simp)]
 refine Z56 ?_
 simp only [show ¬ ((i:Int) < 0) by omega,if_false,Int.toNat_natCast,hi]
 refine Z55 ?_
 first | refine Z55 (wpAny_typeNameOfWhole_keyiter K.typeIs (Z56 ?_)) | refine Z55 (wpAny_typeNameOf_keyiter K.typeIs (Z56 ?_))
 refine Z55 (wpAny_isOneOf_keyiter K.typeIs ?_)
 show wpAny _ _ (setField (.ref it) 1 (rawInt ((i:Int)+1)) >>= _) _ _ s
 refine Z55 (wpAny_setField hoi hf (by simp) ?_)
 have K':(s.heap.update it (Obj.mapFields (·.setIfInBounds 1 (rawInt ((i:Int)+1))))).IsKeyIter it d (i+1) es.size ep:=⟨_,Heap.get?_update_self _ hoi (Obj.isFreed_of_fields (Obj.data_mapFields hf _)),(Obj.cls_mapFields ..).trans hc,by rw [Obj.data_mapFields hf]; simp [rawInt]⟩
 refine Z55 (wpAny_holding (Z55 (wpAny_isOneOf_keyiter (s:={ s with heap:=s.heap.update it (Obj.mapFields (·.setIfInBounds 1 (rawInt ((i:Int)+1)))) }) K'.typeIs ?_)))
 show wpAny _ _ (pure e.key) _ _ _
 exact Z56 (Z56 ⟨_,rfl,Z56 (q _ K' (Heap.SameBut.update ..))⟩)
theorem Es {Q:Option Value->Shared->Prop} (hh:A.handled=none) (K:s.heap.IsKeyIter it d i es.size ep) (ho:s.heap.get? d=some o) (hd:o.data=.dict es ep) (hi:es.size<=i)
   (q:∀ h',Heap.ExtBut it s.heap h'->Q none { s with heap:=h' }):wpAny (model P w) A (pyNext (.ref it)) Q E s:=by
 obtain ⟨oi,hoi,hc,hf⟩:=id K
 unfold pyNext
 refine Z55 (wpAny_attempt (wpAny_callSpecial?_slot (name:=Str.ofString "__next__") K.typeIs F.slot_dict_keyiterator_next (wpAny_call_entry F.slot_dict_keyiterator_next K.typeIs F.entry_dict_keyiterator_next ?_ (F.args_dict_keyiterator_next_1 _))))
 refine Z55 (Z56 (Z55 (Z55 ?_)))
 first | refine Z55 (wpAny_typeNameOfWhole_keyiter K.typeIs (Z56 ?_)) | refine Z55 (wpAny_typeNameOf_keyiter K.typeIs (Z56 ?_))
 refine Z55 (wpAny_fieldsOf hoi hf ?_)
 simp only [show Builtin.Dict_items.ownsTuple "dict_keyiterator"=false by decide,Z47,if_false]
 show wpAny _ _ (if (Value.ref d == Value.none)=true then _ else _) _ _ s
 rw [if_neg (show ¬ ((Value.ref d == Value.none)=true) from nofun)]
 refine Z55 (Z56 (Z55 (wpAny_dictEntries ho hd ?_)))
 rw [if_neg (by simp)]
 refine Z55 (Z56 (Z55 (wpAny_dictEpoch ho hd ?_)))
 rw [if_neg (by simp)]
 refine Z56 ?_
 simp only [show ¬ ((i:Int) < 0) by omega,if_false,Int.toNat_natCast,Array.getElem?_eq_none hi]
 refine Z55 ?_
 first | refine Z55 (wpAny_typeNameOfWhole_keyiter K.typeIs (Z56 ?_)) | refine Z55 (wpAny_typeNameOf_keyiter K.typeIs (Z56 ?_))
 show wpAny _ _ (setField (.ref it) 0 .none >>= _) _ _ s
 refine Z55 (wpAny_setField hoi hf (by simp) ?_)
 show wpAny _ _ (newExc (.type "StopIteration") [] >>= _) _ _ _
 refine Z55 ?_
 simp only [newExc,newTuple]
 refine Z55 (wpAny_newObj_type ?_ (by size_fits))
 refine Z55 (m:=firstArgMember _ _) (wpAny_of_eq (a:=Value.none) (by first | rfl | (simp only [firstArgMember]; rfl)) (wpAny_newObj_type ?_ (by size_fits)))
 simp only [raiseNew]
 refine Z55 (wpAny_handled ?_)
 rw [show A.in1.handled=none from hh]
 refine Z55 (Z56 (wpAny_throw ?_))
 refine Z55 (wpAny_isInstance (b:=true) (T:="StopIteration") ⟨_,Z20 _ rfl,rfl⟩ isSubtype_stop ?_)
 exact Z56 (q _ (((Heap.SameBut.update ..).extBut.push _).push _))
end
noncomputable def Itn (a:Addr) (o:Obj) (kvs:List (KA × V)):It:=⟨fun i H=>i < kvs.length/\H a=some (.ext (NDf a o kvs)),fun i H x H'=>H'=H/\∃ kv,kvs[i]?=some kv/\x=kaV kv.1,fun i H=>kvs.length<=i/\H a=some (.ext (NDf a o kvs))⟩
theorem fD {P:Program} {w:World} {H:Hp} {h:Heap} {a:Addr} {o:Obj} {kvs:List (KA × V)} (x:ObjOk P w H h a (.ext (NDf a o kvs))):h.get? a=some o/\(a == sysModules)=false/\o.ExactDict/\∃ es ep,o.data=.dict es ep/\es.size=kvs.length/\∀ (i:Nat) (kv:KA × V),kvs[i]?=some kv->∃ e:DictEntry,es[i]?=some e/\e.key=kaU kv.1:=by
 obtain ⟨⟨z0,z1,z2,qs,z3,es,ep,h1,z5,z6,z7⟩,_⟩:=x
 refine ⟨h1,z0,z5,es,ep,z6,?_,fun i kv hi=>?_⟩
 · have:=congrArg List.length z7
   simp at this
   rw [this]
   exact (Paired.length z3).symm
 · have key:∀ {l:List (KA × V)} {m:List (KA × Value)},KV l m->∀ (i:Nat) (kv:KA × V),l[i]?=some kv->∃ q:KA × Value,m[i]?=some q/\q.1=kv.1:=by
     intro l m r
     unfold KV at r
     induction r with
     | nil=>intro i kv h; simp at h
     | @cons p q ps qs h t ih=>
       intro i kv hi
       cases i with
       | zero=>simp at hi; subst hi; exact ⟨q,rfl,h.1.symm⟩
       | succ i=>simp at hi; obtain ⟨q',a,b⟩:=ih i kv hi; exact ⟨q',by simpa using a,b⟩
   obtain ⟨q,hq,e⟩:=key z3 i kv hi
   refine ⟨mz (ge q),?_,by unfold mz ge; rw [e]⟩
   rw [<- Array.getElem?_toList,z7,Z21,Z21,hq]
   rfl
theorem wz (c:KA):RelV (kaV c) (kaU c):=by cases c <;> rfl
theorem wA {P:Program} {w:World} {K:PySem.W.Frag} {tg:Expr} (a it:Addr) (o:Obj) (kvs:List (KA × V)) (es:Array DictEntry) (ep:Nat) (hd:o.data=.dict es ep) (hs:es.size=kvs.length):Turn P w K tg (Itn a o kvs) [it] it (fun i h=>h.IsKeyIter it a i es.size ep) where
 mem:=by simp
 obj:=fun i h st b hb=>by
   have e:b=it:=by simpa using hb
   subst e
   obtain ⟨o,e,c,d⟩:=st
   exact ⟨o,e,fun v z=>by rw [d] at z; cases z⟩
 keep:=fun i h h' st k=>st.at fun o e=>k it (by simp) o e
 item:=by
   intro X hP hw hK hc i pins s σ H E I hf st hg
   subst hP hw hK
   obtain ⟨hi,hH⟩:=hg
   obtain ⟨h1,h2,h3,es',ep',h4,h5,h6⟩:=fD (I.hok a _ hH)
   rw [hd] at h4
   cases h4
   obtain ⟨f0,f1,f2,f3,f4,f5⟩:=hf it (by simp)
   obtain ⟨e,he,hk⟩:=h6 i _ (Z3 hi)
   refine CS st h1 hd he fun h' st' sb=>?_
   have I1:Inv X pins σ H { s with heap:=h' }:=I.turned (t':=s.toks) (fun b o hb e=>(sb.2 b hb).trans e) f0 f1 f3 f4 f5
   obtain ⟨oo,e1,c1,d1⟩:=id st'
   exact ⟨_,rfl,jz (s:={ s with heap:=h' }) e1 c1 d1 (by decide) ⟨kaV kvs[i].1,H,I1,by rw [hk]; exact wz _,⟨rfl,_,Z3 hi,rfl⟩,st',fun b hb=>(hf b hb).1⟩⟩
 done:=by
   intro X hP hw hK hc i pins s σ H E I hf st hg
   subst hP hw hK
   obtain ⟨hi,hH⟩:=hg
   obtain ⟨h1,h2,h3,_⟩:=fD (I.hok a _ hH)
   obtain ⟨f0,f1,f2,f3,f4,f5⟩:=hf it (by simp)
   exact Es (I.ok.hd hc) st h1 hd (by omega) fun h' eb=>⟨rfl,I.turned (t':=s.toks) (fun b o hb e=>eb b o hb e) f0 f1 f3 f4 f5⟩
 self:=fun _ _ _ _ _ st h=>wpAny_pyIter_keyiter st h
noncomputable def iNd (tl:TE):TI:=fun σ H R=>tl σ H fun x H1=>∃ a o kvs,x=.ref a/\H1 a=some (.ext (NDf a o kvs))/\R (Itn a o kvs) H1
section
variable {X:Cx} {tg:Expr}
theorem ze {l:Expr} {tl:TE} (hl:PE X l tl):PI X tg l (iNd tl):=by
 intro pins s σ H R I h
 refine thn (hl pins s σ H _ I h) fun v s1 ⟨x,H1,I1,r1,q1⟩=>?_
 obtain ⟨a,o,kvs,e,hH,q⟩:=q1
 subst e
 cases r1
 obtain ⟨h1,h2,h3,es,ep,h4,h5,_⟩:=fD (I1.hok a _ hH)
 refine CQ h2 h1 h3 h4 ?_
 refine ⟨s1.heap.objs.size,[s1.heap.objs.size],_,_,H1,rfl,I1.kept (t':=s1.toks) fun b o e=>Z7 _ e,wA a _ o kvs es ep h4 h5,⟨_,Z20 _ rfl,rfl,rfl⟩,fun b hb=>?_,q⟩
 have e:b=s1.heap.objs.size:=by simpa using hb
 subst e
 exact I1.fpOk (Z10 _) (I1.hok.fresh (Z10 _))
noncomputable def CT:R2:=fun x y H Q=>∃ a o kvs k v,x=.ref a/\ND H a o kvs/\KyV H y k/\valN kvs k=some v/\Q v H
theorem CU (hu:X.A.units+1 < cLine):IxR X CT:=by
 intro value slice pins s σ H x y v u Q I rx ry h hs
 obtain ⟨a,ob,kvs,k,z,rfl,n,hk,l,q⟩:=h
 cases rx
 exact tail_any (n.ty I) PySem.F.slot_dict_getitem.lookup (AJ hu I n hk ry l fun w' s3 I3 rw'=>⟨z,H,I3,rw',q⟩) hs
noncomputable def zg:V->V->V->Hp->(Hp->Prop)->Prop:=fun o i v H Q=>∃ a ob kvs c,o=.ref a/\i=kaV c/\H a=some (.ext (NDf a ob kvs))/\iE H kvs/\(∀ p,c=some p->H p.1=some (.tup (p.2.map V.int)))/\valN kvs (kaK c)=none/\kvs.length < sizeLine/\∀ o',Q (upd H a (.ext (NDf a o' (kvs++[(c,v)]))))
theorem AL (hu:X.A.units+1 < cLine):vO X zg:=by
 intro pins s σ H o i v ov iv u Q I ro ri rv h
 obtain ⟨a,ob,kvs,c,rfl,rfl,e,ki,hc,hv,hz,q⟩:=h
 cases ro
 have eu:iv=kaU c:=by
   cases c with
   | none=>exact ri
   | some p=>exact ri
 exact AK hu I e ki hc eu hv hz rv fun o' s3 I3=>⟨_,I3,q o'⟩
noncomputable def tO:TE:=fun _ H Q=>∀ p o,H p=none->Q (.ref p) (upd H p (.ext (NDf p o [])))
theorem tP {pos:Pos}:PE X (.Dict [] [] pos) tO:=fun pins s σ H Q I h=>
 wpAny_Dict_empty ⟨.ref s.heap.objs.size,_,I.laid (a:=s.heap.objs.size) (o:=.ext (NDf s.heap.objs.size { cls:=.type "dict",data:=.dict #[] } [])) (t':=s.toks) (fun _ _ q=>Z7 _ q) (Z10 _) (tN (hb:=I.big)),rfl,h _ _ (I.hok.fresh (Z10 _))⟩
end
section
variable {X:Cx} {pins:List (Addr × Obj)} {σ:St} {H:Hp} {s:Shared} {a b:Addr} {v:V} {kvs:List (List Key × V)} {k:List Key} {A:Around} {E:Value->Shared->Prop}
theorem Et (I:Inv X pins σ H s) (e:SqT X.K H b (k.map kV)):(tupleKind (aI X.prog X.w)).is s.heap k b:=by
 obtain ⟨its,r,⟨o,h1,h2,n,h3⟩,_⟩:=I.tuple e
 exact ⟨o,its.toArray,n,h1,h2,h3,by simpa using fY r⟩
theorem wB (I:Inv X pins σ H s) (e:H a=some (.dT kvs)):s.TypeIs (.ref a) "dict":=by
 obtain ⟨_,_,xs,_,dd⟩:=sU I.hok e
 exact dd.typeIs
theorem AM {Q:Value->Shared->Prop} (hu:A.units+1 < cLine) (I:Inv X pins σ H s) (e:H a=some (.dT kvs)) (eb:SqT X.K H b (k.map kV)) (l:eR kvs k=some v) (h:∀ w' s',Inv X pins σ H s'->RelV v w'->Q w' s') :
   wpAny (model X.prog X.w) A (getItem (.ref a) (.ref b)) Q E s:=by
 obtain ⟨z,hd,xs,rel,dd⟩:=sU I.hok e
 obtain ⟨w',hw,rw'⟩:=RelO.some_of (v:=v) (o:=(atKey xs k).map (·.2)) (by rw [<- l]; exact rel.val k)
 obtain ⟨p,hp,hp2⟩:=Option.map_eq_some_iff.mp hw
 refine wpAny_getItem_heap (tupleKind_room_in1 hu) (Et I eb) dd hp ?_
 rw [hp2]
 exact h w' _ (I.tok _) rw'
theorem AN {r:Value} {Q:Unit->Shared->Prop} (hu:A.units+1 < cLine) (I:Inv X pins σ H s) (e:H a=some (.dT kvs)) (eb:H b=some (.tup (k.map kV))) (hl:kvs.length < sizeLine) (rv:RelV v r) (h:∀ s',Inv X pins σ (upd H a (.dT (db kvs k v))) s'->Q () s') :
   wpAny (model X.prog X.w) A (setItem (.ref a) (.ref b) r) Q E s:=jH hu I (DPut.t e eb hl) rfl rv h
end
noncomputable def CV (K:PySem.W.Frag):R2:=fun x y H Q=>∃ a b kvs k v,x=.ref a/\y=.ref b/\H a=some (.dT kvs)/\SqT K H b (k.map kV)/\eR kvs k=some v/\Q v H
noncomputable def CW:R2:=fun x y H Q=>∃ a kvs i v,x=.ref a/\y=.int i/\H a=some (.dK kvs)/\eR kvs (.inl i)=some v/\Q v H
noncomputable def jq (K:PySem.W.Frag):R2:=fun x y H Q=>we K x y H Q∨CV K x y H Q∨CW x y H Q∨CT x y H Q
section
variable {X:Cx} {K:PySem.W.Frag}
theorem wC (hu:X.A.units+1 < cLine):IxR X (CV X.K):=by
 intro value slice pins s σ H x y v u Q I rx ry h hs
 obtain ⟨a,b,kvs,k,z,rfl,rfl,e,eb,l,q⟩:=h
 cases rx
 cases ry
 exact tail_any (wB I e) PySem.F.slot_dict_getitem.lookup (AM hu I e eb l fun w' s3 I3 rw'=>⟨z,H,I3,rw',q⟩) hs
theorem CY (hu:X.A.units+1 < cLine):IxR X CW:=by
 intro value slice pins s σ H x y v u Q I rx ry h hs
 obtain ⟨a,kvs,i,z,rfl,rfl,e,l,q⟩:=h
 cases rx
 have g:Av H a (.int i) (some z):=.inl ⟨kvs,.inl i,.inl e,rfl,l.symm⟩
 exact tail_any (ml I g) PySem.F.slot_dict_getitem.lookup (qE hu I g ry fun w' s3 I3 rw'=>⟨z,H,I3,rw',q⟩) hs
theorem AO (kt:KT K) (hu:X.A.units+1 < cLine) (hK:X.K=K:=by rfl):IxR X (jq K):=by
 subst hK
 exact op_ixA.or ((wC hu).or ((CY hu).or (CU hu)))
noncomputable def CZ:V->V->V->Hp->(Hp->Prop)->Prop:=fun o i v H Q=>∃ a b kvs k,o=.ref a/\i=.ref b/\H a=some (.dT kvs)/\H b=some (.tup (k.map kV))/\kvs.length < sizeLine/\Q (upd H a (.dT (db kvs k v)))
noncomputable def C0:V->V->V->Hp->(Hp->Prop)->Prop:=fun o i v H Q=>∃ a n kvs,o=.ref a/\i=.int n/\H a=some (.dK kvs)/\kvs.length < sizeLine/\Q (upd H a (.dK (db kvs (.inl n) v)))
noncomputable def iF:V->V->V->Hp->(Hp->Prop)->Prop:=fun o i v H Q=>sL o i v H Q∨CZ o i v H Q∨C0 o i v H Q∨zg o i v H Q
theorem wD (hu:X.A.units+1 < cLine):vO X iF:=by
 intro pins s σ H o i v ov iv u Q I ro ri rv h
 rcases h with h | h | h | h
 · exact sM pins s σ H o i v ov iv u Q I ro ri rv h
 · obtain ⟨a,b,kvs,k,rfl,rfl,e,eb,hl,q⟩:=h
   cases ro
   cases ri
   exact AN hu I e eb hl rv fun s3 I3=>⟨_,I3,q⟩
 · obtain ⟨a,n,kvs,rfl,rfl,e,hl,q⟩:=h
   cases ro
   have g:DPut H a (.int n) v (upd H a (.dK (db kvs (.inl n) v))):=.inl ⟨kvs,.inl n,e,rfl,hl,rfl⟩
   exact jH hu I g ri rv fun s3 I3=>⟨_,I3,q⟩
 · exact AL hu pins s σ H o i v ov iv u Q I ro ri rv h
noncomputable def ol:TE:=fun σ H Q=>sY σ H Q∨sX σ H Q∨tO σ H Q
theorem tQ {pos:Pos}:PE X (.Dict [] [] pos) ol:=fun pins s σ H Q I h=>h.elim (fun h=>s9 pins s σ H Q I h) fun h=>h.elim (fun h=>sZ pins s σ H Q I h) fun h=>tP pins s σ H Q I h
end
section
variable {X:Cx}
noncomputable def zh (Q:VK) (p:Addr) (l:List (V × V)) (H2:Hp):Prop:=∃ y ob,l=[(V.non,y)]/\H2 p=some (.ext (NDf p ob []))/\∀ o',Q (.ref p) (upd H2 p (.ext (NDf p o' [(none,y)])))
noncomputable def tR (tk tv:TE):TE:=fun σ H Q=>∀ p ob,H p=none->tk σ (upd H p (.ext (NDf p ob []))) fun x H1=>tv σ H1 fun y H2=>zh Q p [(x,y)] H2
theorem tS {k v:Expr} {tk tv:TE} {pos:Pos} (hu:X.A.units+1 < cLine) (hk:PE X k tk) (hv:PE X v tv):PE X (.Dict [some k] [v] pos) (tR tk tv):=by
 intro pins s σ H Q I q
 have hn:=I.hok.fresh (Z10 s.heap.objs.size)
 have I1:=I.laid (a:=s.heap.objs.size) (o:=.ext (NDf s.heap.objs.size { cls:=.type "dict",data:=.dict #[] } [])) (h':=s.heap.push { cls:=.type "dict",data:=.dict #[] }) (t':=s.toks) (fun _ _ q=>Z7 _ q) (Z10 _) (tN (hb:=I.big))
 refine wpAny_Dict_any rfl rfl (by simp) (by simp) ?_
 have ps:PPs X pos [some k] [v] [(tk,tv)]:=tj hk hv v8
 refine thn (ps pins _ σ _ (zh Q s.heap.objs.size) I1 (q _ _ hn)) fun ws s2 ⟨l,H2,I2,rel,y,ob,el,e,q2⟩=>?_
 · subst el
   cases rel with
   | @cons w0 w' _ _ r t=>
     cases t
     obtain ⟨u1,u2⟩:=w'
     obtain ⟨r1,r2⟩:=r
     dsimp only at r1 r2
     cases (show u1=Value.none from r1)
     obtain ⟨qs,es,ep,kv,N,z0,z1⟩:=ND.nat I2 (kvs:=[]) ⟨e,fun kv m=>by cases m⟩
     have eq:qs=[]:=List.length_eq_zero_iff.mp (Paired.length kv).symm
     subst eq
     unfold storeAll
     rw [List.forIn_cons]
     refine Z55 (Z55 (CP (k:=none) (by show X.A.units < cLine; lia) (rfl:kIs X.prog X.w s2.heap none Value.none) N rfl (by simp [sizeLine_eq]) fun n h' ⟨o',es',ep',N'⟩ hs=>?_))
     refine Z56 ?_
     dsimp only
     rw [List.forIn_nil]
     refine Z56 ⟨.ref s.heap.objs.size,_,?_,rfl,q2 o'⟩
     refine gY I2 (by rw [e]; exact True.intro) hs ⟨o',N'.ho⟩ (tM ⟨z0,by simp [sizeLine_eq],?_,[(none,u2)],.cons ⟨rfl,r2⟩ .nil,es',ep',N'.ho,N'.hx,N'.hd,?_⟩)
     · simp [kaK]
     · rw [N'.he]
       rfl
end
end L2
namespace Mir
open PySem L2
set_option genInjectivity true in
inductive S where
 | d (x:D)
 | pot (ns:List Int) (i r m:Int)
 | dc (kvs:List (List Key × D))
 | dk (kvs:List (Key × D))
 | dm (kvs:List (NK × D))
 | dn (kvs:List (NK × D))
 | scr (ns:List Int)
noncomputable abbrev En:=List (Option S)
noncomputable def look:En->Nat->Option S
 | [],_=>none
 | x::_,0=>x
 | _::r,n+1=>look r n
set_option genInjectivity true in
inductive Op where
 | val (d:D)
 | var (i:Nat)
set_option genInjectivity true in
inductive Md where
 | pl | ow | lk | io
 deriving DecidableEq
noncomputable def aj:List Md->Nat->Md
 | [],_=>.pl
 | m::_,0=>m
 | _::r,n+1=>aj r n
noncomputable def unD:Option S->Option D
 | some (.d x)=>some x
 | _=>none
noncomputable def res (ρ:En):Op->Option D
 | .val d=>some d
 | .var i=>unD (look ρ i)
noncomputable def C1 (ρ:En):Op->Option S
 | .val d=>some (.d d)
 | .var i=>look ρ i
noncomputable def cp (s:Option D):Option D:=match s with
 | some x=>if D.imm x=true then some x else none
 | none=>none
noncomputable def sto (md:List Md) (ρ:En):Op->Option D
 | .val d=>some d
 | .var i=>match aj md i with
   | .pl=>unD (look ρ i)
   | _=>cp (unD (look ρ i))
theorem aV:∀ {ρ:En} {i:Nat} {x:Option S},i < ρ.length->look (ρ.set i x) i=x
 | [],i,x,h=>by simp at h
 | y::r,0,x,h=>rfl
 | y::r,i+1,x,h=>by simp only [List.set_cons_succ,look]; exact aV (by simpa using h)
theorem ay:∀ {ρ:En} {i j:Nat} {x:Option S},i ≠ j->look (ρ.set i x) j=look ρ j
 | [],i,j,x,h=>rfl
 | y::r,0,0,x,h=>absurd rfl h
 | y::r,0,j+1,x,h=>rfl
 | y::r,i+1,0,x,h=>rfl
 | y::r,i+1,j+1,x,h=>by simp only [List.set_cons_succ,look]; exact ay (fun e=>h (by rw [e]))
theorem bp:∀ {ρ:En} {i:Nat} {s:S},look ρ i=some s->i < ρ.length
 | [],i,s,h=>by cases h
 | y::r,0,s,h=>by simp
 | y::r,i+1,s,h=>by have:=bp (ρ:=r) (i:=i) h; simp; omega
mutual
def RepP (K:PySem.W.Frag) (H:Hp) (ok:Addr->Prop):D->V->Prop
 | .non,v=>v=.non
 | .bl b,v=>v=.bl b
 | .int i,v=>v=.int i
 | .str x,v=>v=.str x
 | .tup l,v=>∃ a xs,v=.ref a/\SqT K H a xs/\RepPL K H ok l xs
 | .lst l,v=>∃ a xs,v=.ref a/\H a=some (.lst xs)/\ok a/\RepPL K H ok l xs
def RepPL (K:PySem.W.Frag) (H:Hp) (ok:Addr->Prop):List D->List V->Prop
 | [],xs=>xs=[]
 | d::ds,xs=>∃ x r,xs=x::r/\RepP K H ok d x/\RepPL K H ok ds r
end
section
variable {K:PySem.W.Frag} {H H':Hp} {ok ok':Addr->Prop}
theorem RepPL.nil:RepPL K H ok [] []:=by rw [RepPL]
theorem RepPL.cons {d:D} {ds:List D} {x:V} {xs:List V} (h:RepP K H ok d x) (t:RepPL K H ok ds xs):RepPL K H ok (d::ds) (x::xs):=by rw [RepPL]; exact ⟨x,xs,rfl,h,t⟩
theorem RepPL.cons_inv {d:D} {ds:List D} {xs:List V} (h:RepPL K H ok (d::ds) xs):∃ x r,xs=x::r/\RepP K H ok d x/\RepPL K H ok ds r:=by rw [RepPL] at h; exact h
theorem RepPL.nil_inv {xs:List V} (h:RepPL K H ok [] xs):xs=[]:=by rw [RepPL] at h; exact h
theorem RepPL.length:∀ {l:List D} {xs:List V},RepPL K H ok l xs->xs.length=l.length
 | [],xs,h=>by rw [h.nil_inv]; rfl
 | d::ds,xs,h=>by
   obtain ⟨x,r,rfl,_,h2⟩:=h.cons_inv
   simp [RepPL.length h2]
theorem RepPL.get:∀ {l:List D} {xs:List V} {i:Nat} {d:D},RepPL K H ok l xs->l[i]?=some d->∃ x,xs[i]?=some x/\RepP K H ok d x
 | [],xs,i,d,h,e=>by simp at e
 | d'::ds,xs,0,d,h,e=>by
   obtain ⟨x,r,rfl,h1,_⟩:=h.cons_inv
   simp at e; subst e
   exact ⟨x,rfl,h1⟩
 | d'::ds,xs,i+1,d,h,e=>by
   obtain ⟨x,r,rfl,_,h2⟩:=h.cons_inv
   simp at e
   obtain ⟨y,e1,h3⟩:=RepPL.get h2 e
   exact ⟨y,by simpa using e1,h3⟩
theorem RepPL.append:∀ {l m:List D} {xs ys:List V},RepPL K H ok l xs->RepPL K H ok m ys->RepPL K H ok (l++m) (xs++ys)
 | [],m,xs,ys,h,t=>by rw [h.nil_inv]; exact t
 | d::ds,m,xs,ys,h,t=>by
   obtain ⟨x,r,rfl,h1,h2⟩:=h.cons_inv
   exact .cons h1 (RepPL.append h2 t)
theorem RepPL.take:∀ {l:List D} {xs:List V} (n:Nat),RepPL K H ok l xs->RepPL K H ok (l.take n) (xs.take n)
 | l,xs,0,h=>by simp; exact .nil
 | [],xs,n+1,h=>by rw [h.nil_inv]; simp; exact .nil
 | d::ds,xs,n+1,h=>by
   obtain ⟨x,r,rfl,h1,h2⟩:=h.cons_inv
   simp only [List.take_succ_cons]
   exact .cons h1 (RepPL.take n h2)
theorem RepPL.drop:∀ {l:List D} {xs:List V} (n:Nat),RepPL K H ok l xs->RepPL K H ok (l.drop n) (xs.drop n)
 | l,xs,0,h=>by simpa using h
 | [],xs,n+1,h=>by rw [h.nil_inv]; simp; exact .nil
 | d::ds,xs,n+1,h=>by
   obtain ⟨x,r,rfl,h1,h2⟩:=h.cons_inv
   simp only [List.drop_succ_cons]
   exact RepPL.drop n h2
theorem RepPL.dropLast {l:List D} {xs:List V} (h:RepPL K H ok l xs):RepPL K H ok l.dropLast xs.dropLast:=by
 rw [List.dropLast_eq_take,List.dropLast_eq_take,h.length]
 exact h.take _
theorem RepPL.set:∀ {l:List D} {xs:List V} {d:D} {x:V} (i:Nat),RepPL K H ok l xs->RepP K H ok d x->RepPL K H ok (l.set i d) (xs.set i x)
 | [],xs,d,x,i,h,r=>by rw [h.nil_inv]; simp; exact .nil
 | d'::ds,xs,d,x,0,h,r=>by
   obtain ⟨y,t,rfl,h1,h2⟩:=h.cons_inv
   exact .cons r h2
 | d'::ds,xs,d,x,i+1,h,r=>by
   obtain ⟨y,t,rfl,h1,h2⟩:=h.cons_inv
   exact .cons h1 (RepPL.set i h2 r)
theorem RepPL.rep:∀ {l:List D} {xs:List V} (k:Nat),RepPL K H ok l xs->RepPL K H ok (List.replicate k l).flatten (List.replicate k xs).flatten
 | l,xs,0,h=>by simp; exact .nil
 | l,xs,k+1,h=>by
   rw [Z22,Z22,Z39,Z39]
   exact h.append (RepPL.rep k h)
mutual
theorem RepP.rep:∀ {d:D} {v:V},RepP K H ok d v->Rep K H d v
 | .non,v,h=>by rw [RepP] at h; rw [Rep]; exact h
 | .bl _,v,h=>by rw [RepP] at h; rw [Rep]; exact h
 | .int _,v,h=>by rw [RepP] at h; rw [Rep]; exact h
 | .str _,v,h=>by rw [RepP] at h; rw [Rep]; exact h
 | .tup l,v,h=>by
   rw [RepP] at h; rw [Rep]
   obtain ⟨a,xs,e,t,r⟩:=h
   exact ⟨a,xs,e,t,RepPL.repL r⟩
 | .lst l,v,h=>by
   rw [RepP] at h; rw [Rep]
   obtain ⟨a,xs,e,t,_,r⟩:=h
   exact ⟨a,xs,e,.inl (.inl t),RepPL.repL r⟩
theorem RepPL.repL:∀ {l:List D} {xs:List V},RepPL K H ok l xs->RepL K H l xs
 | [],xs,h=>by rw [h.nil_inv]; exact .nil
 | d::ds,xs,h=>by
   obtain ⟨x,r,rfl,h1,h2⟩:=h.cons_inv
   exact .cons (RepP.rep h1) (RepPL.repL h2)
end
mutual
theorem RepP.stay (hT:aT K H H') (hL:∀ a xs,ok a->H a=some (.lst xs)->H' a=some (.lst xs)/\ok' a):∀ {d:D} {v:V},RepP K H ok d v->RepP K H' ok' d v
 | .non,v,h=>by rw [RepP] at h ⊢; exact h
 | .bl _,v,h=>by rw [RepP] at h ⊢; exact h
 | .int _,v,h=>by rw [RepP] at h ⊢; exact h
 | .str _,v,h=>by rw [RepP] at h ⊢; exact h
 | .tup l,v,h=>by
   rw [RepP] at h ⊢
   obtain ⟨a,xs,e,t,r⟩:=h
   exact ⟨a,xs,e,hT _ _ t,RepPL.stay hT hL r⟩
 | .lst l,v,h=>by
   rw [RepP] at h ⊢
   obtain ⟨a,xs,e,t,o,r⟩:=h
   exact ⟨a,xs,e,(hL _ _ o t).1,(hL _ _ o t).2,RepPL.stay hT hL r⟩
theorem RepPL.stay (hT:aT K H H') (hL:∀ a xs,ok a->H a=some (.lst xs)->H' a=some (.lst xs)/\ok' a):∀ {l:List D} {xs:List V},RepPL K H ok l xs->RepPL K H' ok' l xs
 | [],xs,h=>by rw [h.nil_inv]; exact .nil
 | d::ds,xs,h=>by
   obtain ⟨x,r,rfl,h1,h2⟩:=h.cons_inv
   exact .cons (RepP.stay hT hL h1) (RepPL.stay hT hL h2)
end
mutual
theorem RepP.ofImm:∀ {d:D} {v:V},D.imm d=true->Rep K H d v->RepP K H ok d v
 | .non,v,_,h=>by rw [Rep] at h; rw [RepP]; exact h
 | .bl _,v,_,h=>by rw [Rep] at h; rw [RepP]; exact h
 | .int _,v,_,h=>by rw [Rep] at h; rw [RepP]; exact h
 | .str _,v,_,h=>by rw [Rep] at h; rw [RepP]; exact h
 | .tup l,v,i,h=>by
   rw [Rep] at h; rw [RepP]
   obtain ⟨a,xs,e,t,r⟩:=h
   exact ⟨a,xs,e,t,RepPL.ofImm (by simpa [D.imm] using i) r⟩
 | .lst l,v,i,h=>by simp [D.imm] at i
theorem RepPL.ofImm:∀ {l:List D} {xs:List V},D.immL l=true->RepL K H l xs->RepPL K H ok l xs
 | [],xs,_,h=>by rw [RepL] at h; subst h; exact .nil
 | d::ds,xs,i,h=>by
   rw [RepL] at h
   obtain ⟨x,r,rfl,h1,h2⟩:=h
   rw [D.immL,Z25] at i
   exact .cons (RepP.ofImm i.1 h1) (RepPL.ofImm i.2 h2)
end
noncomputable def RepT (K:PySem.W.Frag) (H:Hp) (ok:Addr->Prop):D->V->Prop
 | .lst l,v=>∃ a xs,v=.ref a/\H a=some (.lst xs)/\RepPL K H ok l xs
 | d,v=>RepP K H ok d v
theorem RepP.top {d:D} {v:V} (h:RepP K H ok d v):RepT K H ok d v:=by
 cases d <;> first | exact h | (rw [RepP] at h; obtain ⟨a,xs,e,t,_,r⟩:=h; exact ⟨a,xs,e,t,r⟩)
theorem RepT.rep {d:D} {v:V} (h:RepT K H ok d v):Rep K H d v:=by
 cases d <;> first | exact RepP.rep (K:=K) (H:=H) (ok:=ok) (show RepP K H ok _ v from h) | (obtain ⟨a,xs,e,t,r⟩:=h; rw [Rep]; exact ⟨a,xs,e,.inl (.inl t),r.repL⟩)
theorem RepT.imm {d:D} {v:V} {ok':Addr->Prop} (h:RepT K H ok d v) (i:D.imm d=true):RepP K H ok' d v:=RepP.ofImm i h.rep
theorem RepP.mono {d:D} {v:V} (h:RepP K H ok d v) (m:∀ a xs,ok a->H a=some (.lst xs)->ok' a):RepP K H ok' d v:=h.stay (fun _ _ z=>z) fun a xs o r=>⟨r,m a xs o r⟩
theorem RepPL.mono {d:List D} {v:List V} (h:RepPL K H ok d v) (m:∀ a xs,ok a->H a=some (.lst xs)->ok' a):RepPL K H ok' d v:=h.stay (fun _ _ z=>z) fun a xs o r=>⟨r,m a xs o r⟩
theorem RepP.same {d:D} {v:V} (h:RepP K H ok d v) (s:Same H H'):RepP K H' ok d v:=h.stay (My.aN s) fun a xs o r=>⟨s _ _ r,o⟩
theorem RepPL.same {d:List D} {v:List V} (h:RepPL K H ok d v) (s:Same H H'):RepPL K H' ok d v:=h.stay (My.aN s) fun a xs o r=>⟨s _ _ r,o⟩
end
noncomputable def kW (o:Option HO):Prop:=(∃ xs,o=some (.lst xs))∨(∃ kvs,o=some (.dT kvs))∨(∃ kvs,o=some (.dK kvs))∨∃ φ,o=some (.ext φ)
noncomputable def RepKV {κ:Type} (K:PySem.W.Frag) (H:Hp) (ok:Addr->Prop) (kvs:List (κ × D)) (ws:List (κ × V)):Prop:=ws.map (·.1)=kvs.map (·.1)/\RepPL K H ok (kvs.map (·.2)) (ws.map (·.2))
structure RepN (K:PySem.W.Frag) (H:Hp) (ok:Addr->Prop) (kvs:List (NK × D)) (ws:List (KA × V)):Prop where
 ks:(ws.map fun x=>kaK x.1)=kvs.map (·.1)
 ki:iE H ws
 vs:RepPL K H ok (kvs.map (·.2)) (ws.map (·.2))
theorem RepN.stay {K:PySem.W.Frag} {H H':Hp} {ok ok':Addr->Prop} (hT:aT K H H') (hL:∀ a xs,ok a->H a=some (.lst xs)->H' a=some (.lst xs)/\ok' a) {kvs:List (NK × D)} {ws:List (KA × V)} (h:RepN K H ok kvs ws):RepN K H' ok' kvs ws:=
 ⟨h.ks,fun kv hk p e=>hT p.1 _ (h.ki kv hk p e),h.vs.stay hT hL⟩
theorem RepN.same {K:PySem.W.Frag} {H H':Hp} {ok:Addr->Prop} {kvs:List (NK × D)} {ws:List (KA × V)} (h:RepN K H ok kvs ws) (s:Same H H'):RepN K H' ok kvs ws:=h.stay (My.aN s) fun a xs o r=>⟨s _ _ r,o⟩
theorem RepN.mono {K:PySem.W.Frag} {H:Hp} {ok ok':Addr->Prop} {kvs:List (NK × D)} {ws:List (KA × V)} (h:RepN K H ok kvs ws) (m:∀ a xs,ok a->H a=some (.lst xs)->ok' a):RepN K H ok' kvs ws:=h.stay (fun _ _ z=>z) fun a xs o r=>⟨r,m a xs o r⟩
noncomputable def Ext (W:Addr->Prop) (H H':Hp):Prop:=∀ b o,¬ W b->H b=some o->H' b=some o
theorem Ext.refl (W:Addr->Prop) (H:Hp):Ext W H H:=fun _ _ _ h=>h
theorem Ext.trans {W:Addr->Prop} {H H1 H2:Hp} (a:Ext W H H1) (b:Ext W H1 H2):Ext W H H2:=fun c o n h=>b c o n (a c o n h)
theorem Same.ext {W:Addr->Prop} {H H':Hp} (s:Same H H'):Ext W H H':=fun b o _ h=>s b o h
theorem Ext.stayT {K:PySem.W.Frag} {W:Addr->Prop} {H H':Hp} (e:Ext W H H') (k:∀ a,W a->kW (H a)):aT K H H':=by
 intro a ys h
 replace h:H a=some (.tup ys):=h
 exact e a _ (fun w=>by rcases k a w with ⟨xs,z⟩ | ⟨xs,z⟩ | ⟨xs,z⟩ | ⟨xs,z⟩ <;> (rw [h] at z; cases z)) h
noncomputable def isM:S->Bool
 | .d (.lst _)=>true
 | .d _=>false
 | .scr _=>false
 | .dn _=>false
 | _=>true
noncomputable def Cell (K:PySem.W.Frag) (A:Addr->Prop) (H:Hp) (ok okq:Addr->Prop):S->V->Prop
 | .d (.lst l),v=>∃ a xs,v=.ref a/\H a=some (.lst xs)/\A a/\ok a/\RepPL K H (fun b=>¬ A b) l xs
 | .d x,v=>RepP K H (fun b=>¬ A b) x v
 | .pot ns i r m,v=>∃ p q,v=.ref p/\H p=some (.lst [.ref q,.int i,.int r,.int m])/\H q=some (.lst (ns.map V.int))/\A p/\ok p/\¬ A q/\okq q
 | .dc kvs,v=>∃ a ws,v=.ref a/\H a=some (.dT ws)/\A a/\ok a/\RepKV K H (fun b=>¬ A b) kvs ws
 | .dk kvs,v=>∃ a ws,v=.ref a/\H a=some (.dK ws)/\A a/\ok a/\RepKV K H (fun b=>¬ A b) kvs ws
 | .dm kvs,v=>∃ a ws,v=.ref a/\(∃ o,H a=some (.ext (NDf a o ws)))/\A a/\ok a/\RepN K H (fun b=>¬ A b) kvs ws
 | .dn _,_=>False
 | .scr _,_=>False
noncomputable def ScrAt (K:PySem.W.Frag) (H:Hp) (a:Addr) (ns:List Int):Prop:=(∃ o,H a=some (.frz o (.lst (ns.map V.int)))) ∨
 ∃ (o:Obj) (its:Array Value) (n:Nat),K.lookup a=some o/\o.cls=.type "list"/\o.dict=none/\o.data=.seq its n/\its.size<=sizeLine/\Vals (ns.map V.int) its.toList
theorem ScrAt.sq {K:PySem.W.Frag} {H:Hp} {a:Addr} {ns:List Int} (h:ScrAt K H a ns):SqL K H a (ns.map V.int):=by
 rcases h with h | h
 · exact .inl (.inr h)
 · exact .inr h
theorem ScrAt.ext {K:PySem.W.Frag} {W:Addr->Prop} {H H':Hp} {a:Addr} {ns:List Int} (e:Ext W H H') (k:∀ a,W a->kW (H a)) (h:ScrAt K H a ns):ScrAt K H' a ns:=by
 rcases h with ⟨o,h⟩ | h
 · exact .inl ⟨o,e a _ (fun w=>by rcases k a w with ⟨xs,z⟩ | ⟨xs,z⟩ | ⟨xs,z⟩ | ⟨xs,z⟩ <;> (rw [h] at z; cases z)) h⟩
 · exact .inr h
theorem ScrAt.same {K:PySem.W.Frag} {H H':Hp} {a:Addr} {ns:List Int} (s:Same H H') (h:ScrAt K H a ns):ScrAt K H' a ns:=by
 rcases h with ⟨o,h⟩ | h
 · exact .inl ⟨o,s _ _ h⟩
 · exact .inr h
noncomputable def tT (K:PySem.W.Frag) (H:Hp) (ok:Addr->Prop):S->V->Prop
 | .d x,v=>RepP K H ok x v
 | .scr ns,v=>∃ a,v=.ref a/\ScrAt K H a ns
 | .dc kvs,v=>∃ a ws,v=.ref a/\H a=some (.dT ws)/\ok a/\RepKV K H ok kvs ws
 | .dn kvs,v=>∃ a ws,v=.ref a/\(∃ o,H a=some (.ext (NDf a o ws)))/\ok a/\RepN K H ok kvs ws
 | _,_=>False
structure Cn where
 K:PySem.W.Frag
 H0:Hp
 M:Addr->Prop
 Q:Addr->Prop
 free:Bool
noncomputable def SlotAt (C:Cn) (A W:Addr->Prop) (H:Hp) (s:S) (v:V):Md->Prop
 | .pl=>tT C.K H (fun b=>¬ A b) s v
 | .ow=>Cell C.K A H (fun a=>W a/\C.H0 a=none) (fun _=>True) s v
 | .lk=>Cell C.K A H (fun a=>¬ W a) (fun _=>True) s v
 | .io=>Cell C.K A H (fun a=>W a/\C.M a) C.Q s v
structure R (C:Cn) (md:List Md) (A W:Addr->Prop) (ρ:En) (σ:St) (H:Hp):Prop where
 len:σ.length=ρ.length
 wa:∀ a,W a->A a
 ak:∀ a,A a->kW (H a)
 base:∀ b o,C.H0 b=some o->¬ C.M b->H b=some o
 wf:∀ a,W a->C.H0 a=none∨C.M a
 ma:∀ a,C.M a->A a
 fo:C.free=true->∀ a xs,C.H0 a=some (.lst xs)->¬ C.Q a->A a
 slot:∀ i s,look ρ i=some s->∃ v,σ[i]?=some (some v)/\SlotAt C A W H s v (aj md i)
 inj:∀ i j s s' a,i ≠ j->aj md i ≠ .pl->aj md j ≠ .pl->look ρ i=some s->look ρ j=some s'->isM s=true->isM s'=true->σ[i]?=some (some (.ref a))->σ[j]?=some (some (.ref a))->False
section
variable {C:Cn} {md:List Md} {A W:Addr->Prop} {ρ:En} {σ:St} {H H':Hp}
theorem R.wk (r:R C md A W ρ σ H):∀ a,W a->kW (H a):=fun a w=>r.ak a (r.wa a w)
theorem R.stayP (r:R C md A W ρ σ H) (e:Ext W H H') {d:D} {v:V} (h:RepP C.K H (fun b=>¬ A b) d v):RepP C.K H' (fun b=>¬ A b) d v:=
 h.stay (e.stayT r.wk) fun a xs o z=>⟨e a _ (fun w=>o (r.wa a w)) z,o⟩
theorem R.stayPL (r:R C md A W ρ σ H) (e:Ext W H H') {d:List D} {v:List V} (h:RepPL C.K H (fun b=>¬ A b) d v):RepPL C.K H' (fun b=>¬ A b) d v:=
 h.stay (e.stayT r.wk) fun a xs o z=>⟨e a _ (fun w=>o (r.wa a w)) z,o⟩
theorem R.stayN (r:R C md A W ρ σ H) (e:Ext W H H') {kvs:List (NK × D)} {ws:List (KA × V)} (h:RepN C.K H (fun b=>¬ A b) kvs ws):RepN C.K H' (fun b=>¬ A b) kvs ws:=
 h.stay (e.stayT r.wk) fun a xs o z=>⟨e a _ (fun w=>o (r.wa a w)) z,o⟩
theorem Cell.same {K:PySem.W.Frag} {ok okq:Addr->Prop} {s:S} {v:V} (s1:Same H H') (h:Cell K A H ok okq s v):Cell K A H' ok okq s v:=by
 match s,h with
 | .d (.lst l),h=>
   obtain ⟨a,xs,e,h1,h2,h3,h4⟩:=h
   exact ⟨a,xs,e,s1 _ _ h1,h2,h3,h4.same s1⟩
 | .d .non,h=>exact RepP.same h s1
 | .d (.bl _),h=>exact RepP.same h s1
 | .d (.int _),h=>exact RepP.same h s1
 | .d (.str _),h=>exact RepP.same h s1
 | .d (.tup _),h=>exact RepP.same h s1
 | .pot ns i r m,h=>
   obtain ⟨p,q,e,h1,h2,h3⟩:=h
   exact ⟨p,q,e,s1 _ _ h1,s1 _ _ h2,h3⟩
 | .dc kvs,h=>
   obtain ⟨a,ws,e,h1,h2,h3,h4,h5⟩:=h
   exact ⟨a,ws,e,s1 _ _ h1,h2,h3,h4,h5.same s1⟩
 | .dk kvs,h=>
   obtain ⟨a,ws,e,h1,h2,h3,h4,h5⟩:=h
   exact ⟨a,ws,e,s1 _ _ h1,h2,h3,h4,h5.same s1⟩
 | .dm kvs,h=>
   obtain ⟨a,ws,e,⟨o,h1⟩,h2,h3,h4⟩:=h
   exact ⟨a,ws,e,⟨o,s1 _ _ h1⟩,h2,h3,h4.same s1⟩
 | .dn _,h=>exact h.elim
 | .scr _,h=>exact h.elim
theorem R.same (r:R C md A W ρ σ H) (s:Same H H'):R C md A W ρ σ H' where
 len:=r.len
 wa:=r.wa
 ak:=fun a h=>(r.ak a h).imp (fun ⟨xs,e⟩=>⟨xs,s _ _ e⟩) (fun z=>z.imp (fun ⟨xs,e⟩=>⟨xs,s _ _ e⟩) (fun z=>z.imp (fun ⟨xs,e⟩=>⟨xs,s _ _ e⟩) (fun ⟨xs,e⟩=>⟨xs,s _ _ e⟩)))
 base:=fun b o h n=>s _ _ (r.base b o h n)
 wf:=r.wf
 ma:=r.ma
 fo:=r.fo
 slot:=fun i t h=>by
   obtain ⟨v,e,h1⟩:=r.slot i t h
   refine ⟨v,e,?_⟩
   cases em:aj md i with
   | pl=>
     rw [em] at h1
     cases t with
     | d x=>
       exact RepP.same h1 s
     | scr ns=>
       obtain ⟨a,z,h1⟩:=h1; exact ⟨a,z,h1.same s⟩
     | dc kvs=>
       obtain ⟨a,ws,z,h1,h2,h3,h4⟩:=h1; exact ⟨a,ws,z,s _ _ h1,h2,h3,h4.same s⟩
     | dn kvs=>
       obtain ⟨a,ws,z,⟨o,h1⟩,h2,h3⟩:=h1; exact ⟨a,ws,z,⟨o,s _ _ h1⟩,h2,h3.same s⟩
     | _=>cases h1
   | ow=>rw [em] at h1; exact Cell.same s h1
   | lk=>rw [em] at h1; exact Cell.same s h1
   | io=>rw [em] at h1; exact Cell.same s h1
 inj:=r.inj
theorem R.fresh (r:R C md A W ρ σ H) {a:Addr} (h:H a=none):¬ A a:=fun z=>by
 rcases r.ak a z with ⟨xs,e⟩ | ⟨xs,e⟩ | ⟨xs,e⟩ | ⟨xs,e⟩ <;> (rw [h] at e; cases e)
theorem R.freshP (r:R C md A W ρ σ H) {d:D} {v:V} {H':Hp} (h:RepP C.K H' (fun a=>¬ A a∨H a=none) d v):RepP C.K H' (fun a=>¬ A a) d v:=
 h.mono fun a xs o _=>by rcases o with o | o; exact o; exact r.fresh o
noncomputable def OpAt (C:Cn) (A:Addr->Prop) (σ:St) (H:Hp):Op->V->Prop
 | .val d,v=>RepP C.K H (fun a=>¬ A a) d v
 | .var i,v=>σ[i]?=some (some v)
theorem OpAt.stay {o:Op} {v:V} (r:R C md A W ρ σ H) (e:Ext W H H') (h:OpAt C A σ H o v):OpAt C A σ H' o v:=by
 cases o with
 | val d=>exact r.stayP e h
 | var i=>exact h
theorem Cell.top {K:PySem.W.Frag} {ok okq:Addr->Prop} {d:D} {v:V} (h:Cell K A H ok okq (.d d) v):RepT K H (fun a=>¬ A a) d v:=by
 match d,h with
 | .lst l,h=>
   obtain ⟨a,xs,e,h1,h2,h3,h4⟩:=h
   exact ⟨a,xs,e,h1,h4⟩
 | .non,h=>exact h
 | .bl _,h=>exact h
 | .int _,h=>exact h
 | .str _,h=>exact h
 | .tup _,h=>exact h
theorem SlotAt.top {d:D} {v:V} {m:Md} (h:SlotAt C A W H (.d d) v m):RepT C.K H (fun a=>¬ A a) d v:=by
 cases m with
 | pl=>exact RepP.top h
 | ow=>exact Cell.top h
 | lk=>exact Cell.top h
 | io=>exact Cell.top h
theorem dt {o:Option S} {d:D} (h:unD o=some d):o=some (.d d):=by
 cases o with
 | some y23=>
   cases y23 with
   | d x=>
     cases h; rfl
   | _=>cases h
 | _=>cases h
theorem OpAt.get {o:Op} {v:V} {d:D} (r:R C md A W ρ σ H) (h:OpAt C A σ H o v) (e:res ρ o=some d):RepT C.K H (fun a=>¬ A a) d v:=by
 cases o with
 | val d'=>cases e; exact RepP.top h
 | var i=>
   obtain ⟨v',e',h'⟩:=r.slot i (.d d) (dt e)
   have:some (some v)=some (some v'):=(show σ[i]?=some (some v) from h).symm.trans e'
   cases this
   exact h'.top
theorem OpAt.sto {o:Op} {v:V} {d:D} (r:R C md A W ρ σ H) (h:OpAt C A σ H o v) (e:sto md ρ o=some d):RepP C.K H (fun a=>¬ A a) d v:=by
 cases o with
 | val d'=>cases e; exact h
 | var i=>
   unfold Mir.sto at e
   cases em:aj md i with
   | pl=>
     simp only [em] at e
     obtain ⟨v',e',h'⟩:=r.slot i (.d d) (dt e)
     have:some (some v)=some (some v'):=(show σ[i]?=some (some v) from h).symm.trans e'
     cases this
     rw [em] at h'
     exact h'
   | _=>
     simp only [em] at e
     cases eu:unD (look ρ i) with
     | none=>rw [eu] at e; cases e
     | some x=>
       rw [eu] at e
       unfold cp at e
       simp only at e
       split at e
       · cases e
         rename_i hi
         exact (OpAt.get r h (show res ρ (.var i)=some d from eu)).imm hi
       · cases e
noncomputable abbrev ME:=En->Option (Op × En)
noncomputable abbrev MT:=En->Option (Bool × En)
noncomputable abbrev MA:=En->Option (List Op × En)
noncomputable def LE (C:Cn) (md:List Md) (t:TE) (f:ME):Prop:=∀ (A W:Addr->Prop) (ρ:En) (σ:St) (H:Hp) (Q:VK) (o:Op) (ρ':En),R C md A W ρ σ H->f ρ=some (o,ρ') ->
 (∀ v H',Ext W H H'->R C md A W ρ' σ H'->OpAt C A σ H' o v->Q v H')->t σ H Q
noncomputable def LT (C:Cn) (md:List Md) (t:TT) (f:MT):Prop:=∀ (A W:Addr->Prop) (ρ:En) (σ:St) (H:Hp) (Q:Bool->Hp->Prop) (b:Bool) (ρ':En),R C md A W ρ σ H->f ρ=some (b,ρ') ->
 (∀ H',Ext W H H'->R C md A W ρ' σ H'->Q b H')->t σ H Q
noncomputable def OpsAt (C:Cn) (A:Addr->Prop) (σ:St) (H:Hp):List Op->List V->Prop
 | [],vs=>vs=[]
 | o::os,vs=>∃ v r,vs=v::r/\OpAt C A σ H o v/\OpsAt C A σ H os r
noncomputable def LA (C:Cn) (md:List Md) (t:TA) (f:MA):Prop:=∀ (A W:Addr->Prop) (ρ:En) (σ:St) (H:Hp) (Q:List V->Hp->Prop) (os:List Op) (ρ':En),R C md A W ρ σ H->f ρ=some (os,ρ') ->
 (∀ vs H',Ext W H H'->R C md A W ρ' σ H'->OpsAt C A σ H' os vs->Q vs H')->t σ H Q
end
end Mir
namespace Mir
open PySem L2
noncomputable def ae (i:Nat):ME:=fun ρ=>match look ρ i with
 | some _=>some (.var i,ρ)
 | none=>none
noncomputable def mC (d:D):ME:=fun ρ=>some (.val d,ρ)
noncomputable def mOp (g:D->D->Option D) (fa fb:ME):ME:=fun ρ=>
 (fa ρ).bind fun x=>(fb x.2).bind fun y=>(res y.2 x.1).bind fun d=>(res y.2 y.1).bind fun e=>(g d e).bind fun u=>some (.val u,y.2)
noncomputable def mUn (g:D->Option D) (fa:ME):ME:=fun ρ=>(fa ρ).bind fun x=>(res x.2 x.1).bind fun d=>(g d).bind fun u=>some (.val u,x.2)
noncomputable def al:MA:=fun ρ=>some ([],ρ)
noncomputable def af (fa:ME) (fr:MA):MA:=fun ρ=>(fa ρ).bind fun x=>(fr x.2).bind fun y=>some (x.1::y.1,y.2)
noncomputable def eT (ρ:En):List Op->Option (List D)
 | []=>some []
 | o::os=>(res ρ o).bind fun d=>(eT ρ os).bind fun ds=>some (d::ds)
noncomputable def stos (md:List Md) (ρ:En):List Op->Option (List D)
 | []=>some []
 | o::os=>(sto md ρ o).bind fun d=>(stos md ρ os).bind fun ds=>some (d::ds)
noncomputable def mCB (g:List D->Option D) (fa:MA):ME:=fun ρ=>(fa ρ).bind fun x=>(eT x.2 x.1).bind fun ds=>(g ds).bind fun u=>some (.val u,x.2)
noncomputable def cB (md:List Md) (fa:MA):ME:=fun ρ=>(fa ρ).bind fun x=>(stos md x.2 x.1).bind fun ds=>if ds.length<=sizeLine then some (.val (.tup ds),x.2) else none
noncomputable def eU (md:List Md) (fa:MA):ME:=fun ρ=>(fa ρ).bind fun x=>(stos md x.2 x.1).bind fun ds=>if ds.length<=sizeLine then some (.val (.lst ds),x.2) else none
noncomputable def asB:D->Option Bool
 | .bl b=>some b
 | _=>none
noncomputable def mB (fa:ME):MT:=fun ρ=>(fa ρ).bind fun x=>(res x.2 x.1).bind fun d=>(asB d).bind fun b=>some (b,x.2)
noncomputable def om (fa fb:MT):MT:=fun ρ=>(fa ρ).bind fun x=>if x.1=true then fb x.2 else some (false,x.2)
noncomputable def mOr (fa fb:MT):MT:=fun ρ=>(fa ρ).bind fun x=>if x.1=true then some (true,x.2) else fb x.2
noncomputable def jr (fa:MT):MT:=fun ρ=>(fa ρ).bind fun x=>some (!x.1,x.2)
noncomputable def fE (fa fb:ME):ME:=fun ρ=>(fa ρ).bind fun x=>(res x.2 x.1).bind fun d=>(asB d).bind fun b=>if b=true then fb x.2 else some (.val (.bl false),x.2)
noncomputable def jK (fa:ME):ME:=fun ρ=>(fa ρ).bind fun x=>(res x.2 x.1).bind fun d=>(asB d).bind fun b=>some (.val (.bl (!b)),x.2)
noncomputable def fF (g g' g'':D->D->Option D) (fa fb fc fd:ME):MT:=fun ρ=>
 (fa ρ).bind fun x=>(fb x.2).bind fun y=>(res y.2 x.1).bind fun d=>(res y.2 y.1).bind fun e=>(g d e).bind fun u=>(asB u).bind fun b=>
   if b=true then (fc y.2).bind fun z=>(res z.2 y.1).bind fun e=>(res z.2 z.1).bind fun h=>(g' e h).bind fun u=>(asB u).bind fun b=>
     if b=true then (fd z.2).bind fun w=>(res w.2 z.1).bind fun h=>(res w.2 w.1).bind fun k=>(g'' h k).bind fun u=>(asB u).bind fun b=>some (b,w.2) else some (false,z.2)
   else some (false,y.2)
noncomputable def OpA (K:PySem.W.Frag) (r:R2) (g:D->D->Option D):Prop:=∀ (H:Hp) (ok:Addr->Prop) (x y:V) (d e u:D) (Q:VK),RepT K H ok d x->RepT K H ok e y->g d e=some u ->
 (∀ v H',Same H H'->RepP K H' (fun a=>ok a∨H a=none) u v->Q v H')->r x y H Q
noncomputable def UnA (K:PySem.W.Frag) (r:V->Hp->VK->Prop) (g:D->Option D):Prop:=∀ (H:Hp) (ok:Addr->Prop) (x:V) (d u:D) (Q:VK),RepT K H ok d x->g d=some u ->
 (∀ v H',Same H H'->RepP K H' (fun a=>ok a∨H a=none) u v->Q v H')->r x H Q
noncomputable def RepTL (K:PySem.W.Frag) (H:Hp) (ok:Addr->Prop):List D->List V->Prop
 | [],vs=>vs=[]
 | d::ds,vs=>∃ v r,vs=v::r/\RepT K H ok d v/\RepTL K H ok ds r
noncomputable def CbA (K:PySem.W.Frag) (r:List V->Hp->VK->Prop) (g:List D->Option D):Prop:=∀ (H:Hp) (ok:Addr->Prop) (vs:List V) (ds:List D) (u:D) (Q:VK),RepTL K H ok ds vs->g ds=some u ->
 (∀ v H',Same H H'->RepP K H' (fun a=>ok a∨H a=none) u v->Q v H')->r vs H Q
section
variable {C:Cn} {md:List Md}
theorem AQ (i:Nat):LE C md (aU i) (ae i):=by
 intro A W ρ σ H Q o ρ' r e k
 unfold ae at e
 cases el:look ρ i with
 | none=>rw [el] at e; cases e
 | some s=>
   rw [el] at e; cases e
   obtain ⟨v,ev,_⟩:=r.slot i s el
   exact ⟨v,ev,k v H (Ext.refl _ _) r ev⟩
theorem tU {v:V} (d:D) (h:∀ H ok,RepP C.K H ok d v):LE C md (tC v) (mC d):=by
 intro A W ρ σ H Q o ρ' r e k
 cases e
 exact k v H (Ext.refl _ _) r (h _ _)
theorem AR {i:Int}:LE C md (tC (.int i)) (mC (.int i)):=tU _ fun _ _=>by rw [RepP]
theorem AS {i:Str}:LE C md (tC (.str i)) (mC (.str i)):=tU _ fun _ _=>by rw [RepP]
theorem C2 {i:Bool}:LE C md (tC (.bl i)) (mC (.bl i)):=tU _ fun _ _=>by rw [RepP]
theorem AT:LE C md (tC .non) (mC .non):=tU _ fun _ _=>by rw [RepP]
theorem fin {A W:Addr->Prop} {ρ:En} {σ:St} {H H1 H':Hp} {d:D} {v:V} (e:Ext W H H1) (r:R C md A W ρ σ H1) (s:Same H1 H') (h:RepP C.K H' (fun a=>¬ A a∨H1 a=none) d v) :
   Ext W H H'/\R C md A W ρ σ H'/\OpAt C A σ H' (.val d) v:=⟨e.trans (Same.ext s),r.same s,r.freshP h⟩
theorem C3 {r:R2} {g:D->D->Option D} {ta tb:TE} {fa fb:ME} (h:OpA C.K r g) (ha:LE C md ta fa) (hb:LE C md tb fb):LE C md (tOp r ta tb) (mOp g fa fb):=by
 intro A W ρ σ H Q o ρ' r0 e k
 unfold mOp at e
 simp only [Z0] at e
 obtain ⟨⟨o1,ρ1⟩,e1,⟨o2,ρ2⟩,e2,d,e3,c,e4,u,e5,e6⟩:=e
 cases e6
 refine ha A W ρ σ H _ o1 ρ1 r0 e1 fun v1 H1 x1 r1 p1=>?_
 refine hb A W ρ1 σ H1 _ o2 ρ2 r1 e2 fun v2 H2 x2 r2 p2=>?_
 refine h H2 _ v1 v2 d c u Q ((p1.stay r1 x2).get r2 e3) (p2.get r2 e4) e5 fun v H' s q=>?_
 obtain ⟨z1,z2,z3⟩:=fin (x1.trans x2) r2 s q
 exact k v H' z1 z2 z3
theorem C4 {r:V->Hp->VK->Prop} {g:D->Option D} {ta:TE} {fa:ME} (h:UnA C.K r g) (ha:LE C md ta fa):LE C md (tUn r ta) (mUn g fa):=by
 intro A W ρ σ H Q o ρ' r0 e k
 unfold mUn at e
 simp only [Z0] at e
 obtain ⟨⟨o1,ρ1⟩,e1,d,e3,u,e5,e6⟩:=e
 cases e6
 refine ha A W ρ σ H _ o1 ρ1 r0 e1 fun v1 H1 x1 r1 p1=>?_
 refine h H1 _ v1 d u Q (p1.get r1 e3) e5 fun v H' s q=>?_
 obtain ⟨z1,z2,z3⟩:=fin x1 r1 s q
 exact k v H' z1 z2 z3
theorem AU:LA C md eK al:=by
 intro A W ρ σ H Q os ρ' r0 e k
 cases e
 exact k [] H (Ext.refl _ _) r0 rfl
theorem wE {ta:TE} {tr:TA} {fa:ME} {fr:MA} (ha:LE C md ta fa) (hr:LA C md tr fr):LA C md (b9 ta tr) (af fa fr):=by
 intro A W ρ σ H Q os ρ' r0 e k
 unfold af at e
 simp only [Z0] at e
 obtain ⟨⟨o1,ρ1⟩,e1,⟨o2,ρ2⟩,e2,e6⟩:=e
 cases e6
 refine ha A W ρ σ H _ o1 ρ1 r0 e1 fun v1 H1 x1 r1 p1=>?_
 refine hr A W ρ1 σ H1 _ o2 ρ2 r1 e2 fun v2 H2 x2 r2 p2=>?_
 exact k _ _ (x1.trans x2) r2 ⟨v1,v2,rfl,p1.stay r1 x2,p2⟩
theorem OpsAt.get {A W:Addr->Prop} {ρ:En} {σ:St} {H:Hp} (r:R C md A W ρ σ H):∀ {os:List Op} {vs:List V} {ds:List D},OpsAt C A σ H os vs->eT ρ os=some ds->RepTL C.K H (fun a=>¬ A a) ds vs
 | [],vs,ds,h,e=>by cases e; exact h
 | o::os,vs,ds,h,e=>by
   obtain ⟨v,t,rfl,h1,h2⟩:=h
   unfold eT at e
   simp only [Z0] at e
   obtain ⟨d,e1,ds',e2,e3⟩:=e
   cases e3
   exact ⟨v,t,rfl,h1.get r e1,OpsAt.get r h2 e2⟩
theorem OpsAt.stos {A W:Addr->Prop} {ρ:En} {σ:St} {H:Hp} (r:R C md A W ρ σ H):∀ {os:List Op} {vs:List V} {ds:List D},OpsAt C A σ H os vs->stos md ρ os=some ds->RepPL C.K H (fun a=>¬ A a) ds vs
 | [],vs,ds,h,e=>by cases e; rw [show vs=[] from h]; exact .nil
 | o::os,vs,ds,h,e=>by
   obtain ⟨v,t,rfl,h1,h2⟩:=h
   unfold Mir.stos at e
   simp only [Z0] at e
   obtain ⟨d,e1,ds',e2,e3⟩:=e
   cases e3
   exact .cons (h1.sto r e1) (OpsAt.stos r h2 e2)
theorem C5 {r:List V->Hp->VK->Prop} {g:List D->Option D} {ta:TA} {fa:MA} (h:CbA C.K r g) (ha:LA C md ta fa):LE C md (tCB r ta) (mCB g fa):=by
 intro A W ρ σ H Q o ρ' r0 e k
 unfold mCB at e
 simp only [Z0] at e
 obtain ⟨⟨o1,ρ1⟩,e1,ds,e3,u,e5,e6⟩:=e
 cases e6
 refine ha A W ρ σ H _ o1 ρ1 r0 e1 fun v1 H1 x1 r1 p1=>?_
 refine h H1 _ v1 ds u Q (p1.get r1 e3) e5 fun v H' s q=>?_
 obtain ⟨z1,z2,z3⟩:=fin x1 r1 s q
 exact k v H' z1 z2 z3
theorem aA {H:Hp} {p:Addr} {o:HO} (hp:H p=none):Same H (upd H p o):=fun b u e=>by rw [au (aw e hp)]; exact e
theorem AV {t:TA} {fa:MA} (ha:LA C md t fa):LE C md (vT t) (cB md fa):=by
 intro A W ρ σ H Q o ρ' r0 e k
 unfold cB at e
 simp only [Z0] at e
 obtain ⟨⟨o1,ρ1⟩,e1,ds,e3,e5⟩:=e
 split at e5
 · cases e5
   rename_i hz
   refine ha A W ρ σ H _ o1 ρ1 r0 e1 fun v1 H1 x1 r1 p1=>?_
   have q:=p1.stos r1 e3
   refine ⟨by rw [q.length]; exact hz,fun p hp=>?_⟩
   have s:=aA (o:=.tup v1) hp
   refine k _ _ (x1.trans (Same.ext s)) (r1.same s) ?_
   show RepP _ _ _ (.tup ds) _
   rw [RepP]
   exact ⟨p,v1,rfl,ar,q.same s⟩
 · cases e5
theorem AW {t:TA} {fa:MA} (ha:LA C md t fa):LE C md (nT t) (eU md fa):=by
 intro A W ρ σ H Q o ρ' r0 e k
 unfold eU at e
 simp only [Z0] at e
 obtain ⟨⟨o1,ρ1⟩,e1,ds,e3,e5⟩:=e
 split at e5
 · cases e5
   rename_i hz
   refine ha A W ρ σ H _ o1 ρ1 r0 e1 fun v1 H1 x1 r1 p1=>?_
   have q:=p1.stos r1 e3
   refine ⟨by rw [q.length]; exact hz,fun p hp=>?_⟩
   have s:=aA (o:=.lst v1) hp
   refine k _ _ (x1.trans (Same.ext s)) (r1.same s) ?_
   show RepP _ _ _ (.lst ds) _
   rw [RepP]
   exact ⟨p,v1,rfl,ar,r1.fresh hp,q.same s⟩
 · cases e5
theorem mF {d:D} {b:Bool} (h:asB d=some b):d=.bl b:=by cases d <;> first | (cases h; done) | (cases h; rfl)
theorem tV {A W:Addr->Prop} {ρ:En} {σ:St} {H:Hp} {o:Op} {d:D} {b:Bool} {v:V} (r:R C md A W ρ σ H) (h:OpAt C A σ H o v) (e:res ρ o=some d) (eb:asB d=some b):v=.bl b:=by
 have z:=(h.get r e).rep
 rw [mF eb,Rep] at z
 exact z
theorem C6 {ta:TE} {fa:ME} (ha:LE C md ta fa):LT C md (tB ta) (mB fa):=by
 intro A W ρ σ H Q b ρ' r0 e k
 unfold mB at e
 simp only [Z0] at e
 obtain ⟨⟨o1,ρ1⟩,e1,d,e3,b',e5,e6⟩:=e
 cases e6
 exact ha A W ρ σ H _ o1 ρ1 r0 e1 fun v1 H1 x1 r1 p1=>⟨b,tV r1 p1 e3 e5,k H1 x1 r1⟩
theorem AX {ta tb:TT} {fa fb:MT} (ha:LT C md ta fa) (hb:LT C md tb fb):LT C md (Cm ta tb) (om fa fb):=by
 intro A W ρ σ H Q b ρ' r0 e k
 unfold om at e
 simp only [Z0] at e
 obtain ⟨⟨b1,ρ1⟩,e1,e2⟩:=e
 refine ha A W ρ σ H _ b1 ρ1 r0 e1 fun H1 x1 r1=>?_
 cases b1 with
 | true=>exact kQ (hb A W ρ1 σ H1 _ b ρ' r1 (by simpa using e2) fun H2 x2 r2=>k H2 (x1.trans x2) r2)
 | false=>simp at e2; obtain ⟨rfl,rfl⟩:=e2; exact kP (k H1 x1 r1)
theorem C7 {ta tb:TT} {fa fb:MT} (ha:LT C md ta fa) (hb:LT C md tb fb):LT C md (tOr ta tb) (mOr fa fb):=by
 intro A W ρ σ H Q b ρ' r0 e k
 unfold mOr at e
 simp only [Z0] at e
 obtain ⟨⟨b1,ρ1⟩,e1,e2⟩:=e
 refine ha A W ρ σ H _ b1 ρ1 r0 e1 fun H1 x1 r1=>?_
 cases b1 with
 | true=>simp at e2; obtain ⟨rfl,rfl⟩:=e2; exact kQ (k H1 x1 r1)
 | false=>exact kP (hb A W ρ1 σ H1 _ b ρ' r1 (by simpa using e2) fun H2 x2 r2=>k H2 (x1.trans x2) r2)
theorem AY {ta:TT} {fa:MT} (ha:LT C md ta fa):LT C md (Co ta) (jr fa):=by
 intro A W ρ σ H Q b ρ' r0 e k
 unfold jr at e
 simp only [Z0] at e
 obtain ⟨⟨b1,ρ1⟩,e1,e2⟩:=e
 cases e2
 exact ha A W ρ σ H _ b1 ρ1 r0 e1 fun H1 x1 r1=>k H1 x1 r1
theorem wF {ta tb:TE} {fa fb:ME} (ha:LE C md ta fa) (hb:LE C md tb fb):LE C md (yP ta tb) (fE fa fb):=by
 intro A W ρ σ H Q o ρ' r0 e k
 unfold fE at e
 simp only [Z0] at e
 obtain ⟨⟨o1,ρ1⟩,e1,d,e3,b,e5,e6⟩:=e
 refine ha A W ρ σ H _ o1 ρ1 r0 e1 fun v1 H1 x1 r1 p1=>⟨b,tV r1 p1 e3 e5,?_⟩
 cases b with
 | true=>exact kQ (hb A W ρ1 σ H1 _ o ρ' r1 (by simpa using e6) fun v H2 x2 r2=>k v H2 (x1.trans x2) r2)
 | false=>simp at e6; obtain ⟨rfl,rfl⟩:=e6; exact kP (k _ H1 x1 r1 (by show RepP _ _ _ _ _; rw [RepP]))
theorem wG {ta:TE} {fa:ME} (ha:LE C md ta fa):LE C md (yQ ta) (jK fa):=by
 intro A W ρ σ H Q o ρ' r0 e k
 unfold jK at e
 simp only [Z0] at e
 obtain ⟨⟨o1,ρ1⟩,e1,d,e3,b,e5,e6⟩:=e
 cases e6
 exact ha A W ρ σ H _ o1 ρ1 r0 e1 fun v1 H1 x1 r1 p1=>⟨b,tV r1 p1 e3 e5,k _ H1 x1 r1 (by show RepP _ _ _ _ _; rw [RepP])⟩
theorem on {K:PySem.W.Frag} {H:Hp} {ok:Addr->Prop} {u:D} {b:Bool} {v:V} (h:RepP K H ok u v) (e:asB u=some b):v=.bl b:=by
 rw [mF e,RepP] at h; exact h
theorem qQ {r r' r'':R2} {g g' g'':D->D->Option D} {ta tb tc td:TE} {fa fb fc fd:ME} (h:OpA C.K r g) (h':OpA C.K r' g') (h'':OpA C.K r'' g'') (ha:LE C md ta fa) (hb:LE C md tb fb) (hc:LE C md tc fc) (hd:LE C md td fd) :
   LT C md (pH r r' r'' ta tb tc td) (fF g g' g'' fa fb fc fd):=by
 intro A W ρ σ H Q o ρ' r0 e k
 unfold fF at e
 simp only [Z0] at e
 obtain ⟨⟨o1,ρ1⟩,e1,⟨o2,ρ2⟩,e2,d,e3,c,e4,u,e5,b,e6,e7⟩:=e
 refine ha A W ρ σ H _ o1 ρ1 r0 e1 fun v1 H1 x1 r1 p1=>?_
 refine hb A W ρ1 σ H1 _ o2 ρ2 r1 e2 fun v2 H2 x2 r2 p2=>?_
 refine h H2 _ v1 v2 d c u _ ((p1.stay r1 x2).get r2 e3) (p2.get r2 e4) e5 fun v H3 s q=>?_
 refine ⟨b,on q e6,?_⟩
 have x3:Ext W H H3:=(x1.trans x2).trans (Same.ext s)
 have r3:=r2.same s
 cases b with
 | false=>simp at e7; obtain ⟨rfl,rfl⟩:=e7; exact kP (k H3 x3 r3)
 | true=>
   simp only [if_true,Z0] at e7
   obtain ⟨⟨o3,ρ3⟩,f1,d',f2,e',f3,u',f4,b',f5,f6⟩:=e7
   refine kQ ?_
   refine hc A W ρ2 σ H3 _ o3 ρ3 r3 f1 fun v3 H4 x4 r4 p4=>?_
   refine h' H4 _ v2 v3 d' e' u' _ (((p2.stay r2 (Same.ext s)).stay r3 x4).get r4 f2) (p4.get r4 f3) f4 fun v H5 s5 q5=>?_
   refine ⟨b',on q5 f5,?_⟩
   have x5:Ext W H H5:=(x3.trans x4).trans (Same.ext s5)
   have r5:=r4.same s5
   cases b' with
   | false=>simp at f6; obtain ⟨rfl,rfl⟩:=f6; exact kP (k H5 x5 r5)
   | true=>
     simp only [if_true,Z0] at f6
     obtain ⟨⟨o4,ρ4⟩,g1,d2,g2,e2',g3,u2,g4,b2,g5,g6⟩:=f6
     cases g6
     refine kQ ?_
     refine hd A W ρ3 σ H5 _ o4 _ r5 g1 fun v4 H6 x6 r6 p6=>?_
     refine h'' H6 _ v3 v4 d2 e2' u2 _ (((p4.stay r4 (Same.ext s5)).stay r5 x6).get r6 g2) (p6.get r6 g3) g4 fun v H7 s7 q7=>?_
     exact ⟨_,on q7 g5,k H7 ((x5.trans x6).trans (Same.ext s7)) (r6.same s7)⟩
end
end Mir
namespace L2
open PySem PySem.Spec PyProof.Rows
section
variable {X:Cx} {K:PySem.W.Frag} {pins:List (Addr × Obj)} {σ:St} {H:Hp} {s:Shared} {l:Addr} {xs:List V}
theorem Inv.lstR (I:Inv X pins σ H s) (hH:Rd H l (.lst xs)):xs.length<=sizeLine/\∃ (its:List Value) (n:Nat),Vals xs its/\xs.length=its.length/\s.heap.get? l=some { cls:=.type "list",data:=.seq its.toArray n }:=by
 obtain ⟨z,its,n,r,e⟩:=hH.ok I.hok
 exact ⟨z,its,n,r,r.length,e⟩
noncomputable def zi:R2:=fun x y H Q=>∃ l b xs zs,x=.ref l/\y=.ref b/\Rd H l (.lst xs)/\Rd H b (.lst zs)/\xs.length+zs.length<=sizeLine/\∀ p,H p=none->Q (.ref p) (upd H p (.lst (xs++zs)))
theorem wH:OpR X (binaryOp .Add) zi:=by
 intro pins s σ H x y v u Q I rx ry h
 obtain ⟨l,b,xs,zs,rfl,rfl,hH,hB,hz,q⟩:=h
 cases rx
 cases ry
 obtain ⟨z,its,n,r,hl,e⟩:=I.lstR hH
 obtain ⟨z2,its2,n2,r2,hl2,e2⟩:=I.lstR hB
 refine PySem.P.add_list e e2 ?_ (by rw [Z4,Z4]; grind)
 have ea:its.toArray++its2.toArray=(its++its2).toArray:=by simp
 rw [ea]
 exact ⟨.ref _,_,I.lnew (t':=s.toks) (r.append r2) (by rw [Z17]; exact hz),rfl,q _ I.fresh⟩
noncomputable def zj (K:PySem.W.Frag):R2:=fun x y H Q=>match x,y with
 | .int i,.int j=>Q (.int (i+j)) H
 | .int i,.bl k=>Q (.int (i+b2i k)) H
 | .str i,.str j=>i.length+j.length<=sizeLine/\Q (.str (i++j)) H
 | .ref a,.ref b=>sK K (.ref a) (.ref b) H Q∨zi (.ref a) (.ref b) H Q
 | _,_=>False
theorem wI (kt:KT K) (hK:X.K=K:=by rfl):OpR X (binaryOp .Add) (zj K):=by
 subst hK
 intro pins s σ H x y v u Q I rx ry h
 cases x with
 | int i=>
   cases y with
   | int j=>exact hG pins s σ H _ _ v u Q I rx ry h
   | bl k=>exact hG pins s σ H _ _ v u Q I rx ry h
   | _=>exact False.elim h
 | str i=>
   cases y with
   | str j=>exact hG pins s σ H _ _ v u Q I rx ry h
   | _=>exact False.elim h
 | ref a=>
   cases y with
   | ref b=>
     rcases h with h | h
     · exact hG pins s σ H _ _ v u Q I rx ry (.inl h)
     · exact wH pins s σ H _ _ v u Q I rx ry h
   | _=>exact False.elim h
 | _=>exact False.elim h
end
end L2
namespace Mir
open PySem PySem.Spec PyProof.Rows L2
noncomputable def bB:D->D->Option D
 | .int i,.int j=>some (.int (i+j))
 | .int i,.bl k=>some (.int (i+b2i k))
 | .str i,.str j=>if i.length+j.length<=sizeLine then some (.str (i++j)) else none
 | .tup (a::l),.tup m=>if l.length+1+m.length<=sizeLine then some (.tup (a::l++m)) else none
 | .lst l,.lst m=>if l.length+m.length<=sizeLine then some (.lst (l++m)) else none
 | _,_=>none
noncomputable def js:D->D->Option D
 | .int i,.int j=>some (.int (i - j))
 | _,_=>none
instance {i j:Int}:Decidable (CMul i j):=by unfold CMul; infer_instance
instance {j:Int}:Decidable (yY j):=by unfold yY; infer_instance
instance {i j:Int}:Decidable (Cw i j):=by unfold Cw; infer_instance
noncomputable def jt:D->D->Option D
 | .int i,.int j=>if 0 < j then some (.int (i % j)) else none
 | _,_=>none
noncomputable def AZ (p:Int->Int->Bool) (q:Str->Str->Bool):D->D->Option D
 | .int i,.int j=>some (.bl (p i j))
 | .str i,.str j=>some (.bl (q i j))
 | _,_=>none
noncomputable def eqD (n:Nat) (neg:Bool) (d e:D):Option D:=if D.depth d<=n then some (.bl (if neg then !D.eq d e else D.eq d e)) else none
noncomputable def isN:D->Bool
 | .non=>true
 | _=>false
noncomputable def Eu:D->D->Option D
 | d,.non=>some (.bl (isN d))
 | _,_=>none
noncomputable def C8:D->D->Option D
 | d,.non=>some (.bl (!isN d))
 | _,_=>none
noncomputable def ixD:D->D->Option D
 | .str z,.int i=>if z.length<=sizeLine then (atI z.cps.toList i).map fun c=>.str ⟨#[c]⟩ else none
 | .tup l,.int i=>atI l i
 | .lst l,.int i=>atI l i
 | _,_=>none
noncomputable def A4:D->Option (List D)
 | .tup l=>some l
 | .lst l=>some l
 | _=>none
noncomputable def inD (n:Nat) (neg:Bool) (d e:D):Option D:=(A4 e).bind fun l=>if D.depthL l<=n then some (.bl (if neg then !(l.any fun e=>D.eq e d) else l.any fun e=>D.eq e d)) else none
noncomputable def eV:D->Option D
 | .int i=>some (.int (-i))
 | _=>none
section
variable {K:PySem.W.Frag} {H:Hp} {ok:Addr->Prop} {x:V}
theorem RepT.int_inv {i:Int} (h:RepT K H ok (.int i) x):x=.int i:=by have z:RepP K H ok (.int i) x:=h; rw [RepP] at z; exact z
theorem RepT.str_inv {i:Str} (h:RepT K H ok (.str i) x):x=.str i:=by have z:RepP K H ok (.str i) x:=h; rw [RepP] at z; exact z
theorem RepT.bl_inv {i:Bool} (h:RepT K H ok (.bl i) x):x=.bl i:=by have z:RepP K H ok (.bl i) x:=h; rw [RepP] at z; exact z
theorem RepT.non_inv (h:RepT K H ok .non x):x=.non:=by have z:RepP K H ok .non x:=h; rw [RepP] at z; exact z
theorem RepT.tup_inv {l:List D} (h:RepT K H ok (.tup l) x):∃ a xs,x=.ref a/\SqT K H a xs/\RepPL K H ok l xs:=by have z:RepP K H ok (.tup l) x:=h; rw [RepP] at z; exact z
theorem RepT.lst_inv {l:List D} (h:RepT K H ok (.lst l) x):∃ a xs,x=.ref a/\H a=some (.lst xs)/\RepPL K H ok l xs:=h
theorem az {i:Int}:RepP K H ok (.int i) (.int i):=by rw [RepP]
theorem bN {i:Bool}:RepP K H ok (.bl i) (.bl i):=by rw [RepP]
theorem cC {i:Str}:RepP K H ok (.str i) (.str i):=by rw [RepP]
theorem du:RepP K H ok .non .non:=by rw [RepP]
end
section
variable {K:PySem.W.Frag}
theorem nN:OpA K (zj K) bB:=by
 intro H ok x y d e u Q h1 h2 g k
 cases d with
 | int i=>
   cases e with
   | int j=>
     cases g; obtain rfl:=h1.int_inv; obtain rfl:=h2.int_inv
     exact k _ H (Same.refl _) az
   | bl j=>
     cases g; obtain rfl:=h1.int_inv; obtain rfl:=h2.bl_inv
     exact k _ H (Same.refl _) az
   | _=>cases g
 | str i=>
   cases e with
   | str j=>
     obtain rfl:=h1.str_inv; obtain rfl:=h2.str_inv
     replace g:(if i.length+j.length<=sizeLine then some (D.str (i++j)) else none)=some u:=g
     split at g
     · cases g; rename_i hz; exact ⟨hz,k _ H (Same.refl _) cC⟩
     · cases g
   | _=>cases g
 | tup y16=>
   cases y16 with
   | cons a l=>
     cases e with
     | tup m=>
       obtain ⟨p,xs,rfl,hp,rp⟩:=h1.tup_inv
       obtain ⟨q,ys,rfl,hq,rq⟩:=h2.tup_inv
       replace g:(if l.length+1+m.length<=sizeLine then some (D.tup (a::l++m)) else none)=some u:=g
       split at g
       · cases g
         rename_i hz
         have L1:=rp.length; have L2:=rq.length
         rw [Z58] at L1
         refine .inl ⟨p,q,xs,ys,rfl,rfl,hp,hq,fun z=>by rw [z] at L1; simp at L1,by lia,fun z=>?_,fun _ t ht=>?_⟩
         · subst z
           have:m=[]:=by cases m with | nil=>rfl | cons _ _=>simp at L2
           subst this
           refine k _ H (Same.refl _) ?_
           rw [Z35,RepP]
           exact ⟨p,xs,rfl,hp,rp.mono fun _ _ o _=>.inl o⟩
         · have s:=aA (o:=.tup (xs++ys)) ht
           refine k _ _ s ?_
           rw [RepP]
           exact ⟨t,_,rfl,ar,((rp.append rq).same s).mono fun _ _ o _=>.inl o⟩
       · cases g
     | _=>cases g
   | _=>cases g
 | lst l=>
   cases e with
   | lst m=>
     obtain ⟨p,xs,rfl,hp,rp⟩:=h1.lst_inv
     obtain ⟨q,ys,rfl,hq,rq⟩:=h2.lst_inv
     replace g:(if l.length+m.length<=sizeLine then some (D.lst (l++m)) else none)=some u:=g
     split at g
     · cases g
       rename_i hz
       have L1:=rp.length; have L2:=rq.length
       refine .inr ⟨p,q,xs,ys,rfl,rfl,.inl hp,.inl hq,by grind,fun t ht=>?_⟩
       have s:=aA (o:=.lst (xs++ys)) ht
       refine k _ _ s ?_
       rw [RepP]
       exact ⟨t,_,rfl,ar,.inr ht,((rp.append rq).same s).mono fun _ _ o _=>.inl o⟩
     · cases g
   | _=>cases g
 | _=>cases g
theorem nO:OpA K tG js:=by
 intro H ok x y d e u Q h1 h2 g k
 cases d with
 | int i=>
   cases e with
   | int j=>
     cases g; obtain rfl:=h1.int_inv; obtain rfl:=h2.int_inv
     exact k _ H (Same.refl _) az
   | _=>cases g
 | _=>cases g
theorem nP:OpA K tF jt:=by
 intro H ok x y d e u Q h1 h2 g k
 cases d with
 | int i=>
   cases e with
   | int j=>
     obtain rfl:=h1.int_inv; obtain rfl:=h2.int_inv
     replace g:(if 0 < j then some (D.int (i % j)) else none)=some u:=g
     split at g
     · cases g; rename_i hz; exact ⟨hz,k _ H (Same.refl _) az⟩
     · cases g
   | _=>cases g
 | _=>cases g
theorem tW {p:Int->Int->Bool} {q:Str->Str->Bool}:OpA K (jI p q) (AZ p q):=by
 intro H ok x y d e u Q h1 h2 g k
 cases d with
 | int i=>
   cases e with
   | int j=>
     cases g; obtain rfl:=h1.int_inv; obtain rfl:=h2.int_inv
     exact k _ H (Same.refl _) bN
   | _=>cases g
 | str i=>
   cases e with
   | str j=>
     cases g; obtain rfl:=h1.str_inv; obtain rfl:=h2.str_inv
     exact k _ H (Same.refl _) bN
   | _=>cases g
 | _=>cases g
theorem mG {H:Hp} {x:V} {d:D} (h:Rep K H d x) (f:bS x=true):d=toD x:=by
 cases d <;> rw [Rep] at h <;> first | (subst h; rfl) | (obtain ⟨a,xs,rfl,_⟩:=h; cases f)
theorem C9 {n:Nat} {neg:Bool}:OpA K (kS K n neg) (Mir.eqD n neg):=by
 intro H ok x y d e u Q h1 h2 g k
 unfold Mir.eqD at g
 split at g
 · cases g
   rename_i hd
   unfold kS
   cases ef:bS x && bS y with
   | true=>
     rw [Z25] at ef
     obtain rfl:=mG h1.rep ef.1
     obtain rfl:=mG h2.rep ef.2
     have z:=k _ H (Same.refl _) bN
     rw [of ef.1 ef.2] at z
     exact z
   | false=>exact ⟨d,e,h1.rep,h2.rep,hd,k _ H (Same.refl _) bN⟩
 · cases g
theorem pJ {H:Hp} {ok:Addr->Prop} {d:D} {x:V} (h:RepT K H ok d x):decide (x=.non)=isN d:=by
 have z:=h.rep
 cases d <;> rw [Rep] at z <;> first | (subst z; rfl) | (obtain ⟨a,xs,rfl,_⟩:=z; rfl)
theorem kM:OpA K AE Eu:=by
 intro H ok x y d e u Q h1 h2 g k
 cases e with
 | non=>
   cases g
   obtain rfl:=h2.non_inv
   exact ⟨rfl,by rw [pJ h1]; exact k _ H (Same.refl _) bN⟩
 | _=>cases g
theorem gX:OpA K tJ C8:=by
 intro H ok x y d e u Q h1 h2 g k
 cases e with
 | non=>
   cases g
   obtain rfl:=h2.non_inv
   exact ⟨rfl,by rw [pJ h1]; exact k _ H (Same.refl _) bN⟩
 | _=>cases g
theorem mH {H:Hp} {ok:Addr->Prop} {l:List D} {xs:List V} {i:Int} {d:D} (r:RepPL K H ok l xs) (hd:atI l i=some d):∃ x,atI xs i=some x/\RepP K H ok d x:=by
 unfold atI at hd ⊢
 rw [r.length]
 cases e:ixN l.length i with
 | none=>rw [e] at hd; cases hd
 | some j=>
   rw [e] at hd
   exact r.get (i:=j) hd
theorem Da:OpA K (we K) ixD:=by
 intro H ok x y d e u Q h1 h2 g k
 cases d with
 | str z=>
   cases e with
   | int i=>
     obtain rfl:=h1.str_inv; obtain rfl:=h2.int_inv
     replace g:(if z.length<=sizeLine then (atI z.cps.toList i).map fun c=>D.str ⟨#[c]⟩ else none)=some u:=g
     split at g
     · rename_i hz
       cases ea:atI z.cps.toList i with
       | none=>rw [ea] at g; cases g
       | some c=>rw [ea] at g; cases g; exact ⟨hz,c,ea,k _ H (Same.refl _) cC⟩
     · cases g
   | _=>cases g
 | tup l=>
   cases e with
   | int i=>
     obtain rfl:=h2.int_inv
     obtain ⟨p,xs,rfl,hp,rp⟩:=h1.tup_inv
     obtain ⟨v,ev,rv⟩:=mH rp g
     exact ⟨xs,v,.inr hp,ev,k _ H (Same.refl _) (rv.mono fun _ _ o _=>.inl o)⟩
   | _=>cases g
 | lst l=>
   cases e with
   | int i=>
     obtain rfl:=h2.int_inv
     obtain ⟨p,xs,rfl,hp,rp⟩:=h1.lst_inv
     obtain ⟨v,ev,rv⟩:=mH rp g
     exact ⟨xs,v,.inl (.inl (.inl hp)),ev,k _ H (Same.refl _) (rv.mono fun _ _ o _=>.inl o)⟩
   | _=>cases g
 | _=>cases g
theorem nQ:UnA K (rU fun i=>.int (-i)) eV:=by
 intro H ok x d u Q h1 g k
 cases d with
 | int i=>
   cases g; exact ⟨i,h1.int_inv,k _ H (Same.refl _) az⟩
 | _=>cases g
theorem RepTL.one_inv {H:Hp} {ok:Addr->Prop} {d:D} {vs:List V} (h:RepTL K H ok [d] vs):∃ v,vs=[v]/\RepT K H ok d v:=by
 obtain ⟨v,r,rfl,h1,h2⟩:=h
 cases (show r=[] from h2)
 exact ⟨v,rfl,h1⟩
noncomputable def bT:List D->Option D
 | [.str z]=>if z.length<=sizeLine then some (.int z.length) else none
 | [.tup l]=>some (.int l.length)
 | [.lst l]=>some (.int l.length)
 | _=>none
theorem A7:CbA K (qH K) bT:=by
 intro H ok vs ds u Q h g k
 cases ds with
 | cons y17 y18=>
   cases y17 with
   | str z=>
     cases y18 with
     | nil=>
       obtain ⟨v,rfl,h1⟩:=h.one_inv
       obtain rfl:=h1.str_inv
       replace g:(if z.length<=sizeLine then some (D.int z.length) else none)=some u:=g
       split at g
       · cases g; rename_i hz; exact AF hz (k _ H (Same.refl _) az)
       · cases g
     | _=>cases g
   | tup l=>
     cases y18 with
     | nil=>
       cases g
       obtain ⟨v,rfl,h1⟩:=h.one_inv
       obtain ⟨p,xs,rfl,hp,rp⟩:=h1.tup_inv
       refine wt hp ?_
       rw [rp.length]
       exact k _ H (Same.refl _) az
     | _=>cases g
   | lst l=>
     cases y18 with
     | nil=>
       cases g
       obtain ⟨v,rfl,h1⟩:=h.one_inv
       obtain ⟨p,xs,rfl,hp,rp⟩:=h1.lst_inv
       refine ⟨_,_,rfl,.inl ⟨xs,.inl (.inl hp),rfl⟩,?_⟩
       rw [rp.length]
       exact k _ H (Same.refl _) az
     | _=>cases g
   | _=>cases g
 | _=>cases g
noncomputable def dw:List D->Option (List Int)
 | []=>some []
 | .int i::r=>(dw r).map (i::·)
 | _=>none
theorem gf:∀ {l:List D} {ns:List Int},dw l=some ns->l=ns.map D.int
 | [],ns,h=>by cases h; rfl
 | .int i::r,ns,h=>by
   replace h:(dw r).map (i::·)=some ns:=h
   cases e:dw r with
   | none=>rw [e] at h; cases h
   | some m=>rw [e] at h; cases h; simp [gf e]
theorem tX (ns:List Int):dw (ns.map D.int)=some ns:=by
 induction ns with
 | nil=>rfl
 | cons a r ih=>rw [Z6,dw,ih]; rfl
theorem eW {H:Hp} {ok:Addr->Prop}:∀ {ns:List Int} {xs:List V},RepPL K H ok (ns.map D.int) xs->xs=ns.map V.int
 | [],xs,h=>h.nil_inv
 | i::r,xs,h=>by
   obtain ⟨x,t,rfl,h1,h2⟩:=h.cons_inv
   rw [RepP] at h1
   rw [h1,eW h2]; rfl
noncomputable def oq:List D->Option D
 | [.int i]=>some (.int i)
 | [.bl k]=>some (.int (if k then 1 else 0))
 | _=>none
theorem A8:CbA K za oq:=by
 intro H ok vs ds u Q h g k
 cases ds with
 | cons y23 y24=>
   cases y23 with
   | int i=>
     cases y24 with
     | nil=>
       cases g
       obtain ⟨v,rfl,h1⟩:=h.one_inv
       obtain rfl:=h1.int_inv
       exact .inl ⟨i,rfl,k _ H (Same.refl _) az⟩
     | _=>cases g
   | bl i=>
     cases y24 with
     | nil=>
       cases g
       obtain ⟨v,rfl,h1⟩:=h.one_inv
       obtain rfl:=h1.bl_inv
       exact .inr ⟨i,rfl,k _ H (Same.refl _) az⟩
     | _=>cases g
   | _=>cases g
 | _=>cases g
noncomputable def EU:List D->Option D
 | [.lst l]=>some (.lst l)
 | [.tup l]=>some (.lst l)
 | _=>none
noncomputable def Ew:List D->Option D
 | [.lst l]=>some (.tup l)
 | [.tup l]=>some (.tup l)
 | _=>none
theorem tY:CbA K (kT K) Ew:=by
 intro H ok vs ds u Q h g k
 cases ds with
 | cons y27 y28=>
   cases y27 with
   | lst l=>
     cases y28 with
     | nil=>
       cases g
       obtain ⟨v,rfl,h1⟩:=h.one_inv
       obtain ⟨p,xs,rfl,hp,rp⟩:=h1.lst_inv
       refine ⟨p,xs,rfl,.inl ⟨.inl (.inl hp),fun t ht=>?_⟩⟩
       have s:=aA (o:=.tup xs) ht
       refine k _ _ s ?_
       rw [RepP]
       exact ⟨t,_,rfl,ar,(rp.same s).mono fun _ _ o _=>.inl o⟩
     | _=>cases g
   | tup l=>
     cases y28 with
     | nil=>
       cases g
       obtain ⟨v,rfl,h1⟩:=h.one_inv
       obtain ⟨p,xs,rfl,hp,rp⟩:=h1.tup_inv
       refine ⟨p,xs,rfl,.inr ⟨hp,?_⟩⟩
       refine k _ H (Same.refl _) ?_
       rw [RepP]
       exact ⟨p,_,rfl,hp,rp.mono fun _ _ o _=>.inl o⟩
     | _=>cases g
   | _=>cases g
 | _=>cases g
noncomputable def jL:D->String
 | .non=>"NoneType"
 | .bl _=>"bool"
 | .int _=>"int"
 | .str _=>"str"
 | .tup _=>"tuple"
 | .lst _=>"list"
theorem wJ {H:Hp} {ok:Addr->Prop} {d:D} {x:V} (h:RepT K H ok d x):TyK K H x (jL d):=by
 have z:=h.rep
 cases d <;> rw [Rep] at z
 case tup l=>obtain ⟨a,xs,rfl,h1,_⟩:=z; exact .inl ⟨rfl,xs,h1⟩
 case lst l=>obtain ⟨a,xs,rfl,h1,_⟩:=z; exact .inr ⟨rfl,xs,h1⟩
 all_goals (subst z; rfl)
end
section
variable {C:Cn} {md:List Md}
noncomputable def mI (c:String) (fa:ME):ME:=fun ρ=>(fa ρ).bind fun x=>(res x.2 x.1).bind fun d=>some (.val (.bl (n9 (jL d) c)),x.2)
theorem A9 {ta:TE} {fa:ME} {c:String} (hc:c ∈ ["bool","int","str","list","tuple"]) (ha:LE C md ta fa):LE C md (tCB (tI C.K) (b9 ta (b9 (tC (V.ty c)) eK))) (mI c fa):=by
 intro A W ρ σ H Q o ρ' r0 e k
 unfold mI at e
 simp only [Z0] at e
 obtain ⟨⟨o1,ρ1⟩,e1,d,e3,e6⟩:=e
 cases e6
 refine ha A W ρ σ H _ o1 ρ1 r0 e1 fun v1 H1 x1 r1 p1=>?_
 exact ⟨v1,c,jL d,rfl,wJ (p1.get r1 e3),hc,k _ H1 x1 r1 (show RepP _ _ _ _ _ from bN)⟩
end
noncomputable def Fix (fx:Nat->Prop) (σ σ':L2.St):Prop:=∀ j,fx j->σ'[j]?=σ[j]?
theorem Fix.refl (fx:Nat->Prop) (σ:L2.St):Fix fx σ σ:=fun _ _=>rfl
theorem Fix.trans {fx:Nat->Prop} {a b c:L2.St} (h:Fix fx a b) (h':Fix fx b c):Fix fx a c:=fun j f=>(h' j f).trans (h j f)
noncomputable def de (md:List Md) (j:Nat):Prop:=aj md j=.lk∨aj md j=.io
structure Gr (A W:Addr->Prop) (H:Hp) (A' W':Addr->Prop) (H':Hp):Prop where
 an:∀ a,A' a->A a∨H a=none
 wn:∀ a,W' a->W a∨H a=none
 ext:Ext W H H'
section
variable {C:Cn} {md:List Md} {A W A' W' A'' W'':Addr->Prop} {ρ ρ':En} {σ σ':L2.St} {H H' H'':Hp}
theorem Gr.refl (A W:Addr->Prop) (H:Hp):Gr A W H A W H:=⟨fun _ h=>.inl h,fun _ h=>.inl h,Ext.refl _ _⟩
theorem Gr.ofExt (e:Ext W H H'):Gr A W H A W H':=⟨fun _ h=>.inl h,fun _ h=>.inl h,e⟩
theorem Gr.back (g:Gr A W H A' W' H') (wa:∀ a,W a->A a) {a:Addr} (h:H' a=none):A a∨H a=none:=by
 cases e:H a with
 | none=>exact .inr rfl
 | some o=>
   by_cases w:W a
   · exact .inl (wa a w)
   · rw [g.ext a o w e] at h; cases h
theorem Gr.trans (g:Gr A W H A' W' H') (wk:∀ a,W a->A a) (mw:∀ a,W a->True) (g':Gr A' W' H' A'' W'' H''):Gr A W H A'' W'' H'' where
 an:=fun a h=>by
   rcases g'.an a h with h | h
   · exact g.an a h
   · exact g.back wk h
 wn:=fun a h=>by
   rcases g'.wn a h with h | h
   · exact g.wn a h
   · cases e:H a with
     | none=>exact .inr rfl
     | some o=>
       by_cases w:W a
       · exact .inl w
       · rw [g.ext a o w e] at h; cases h
 ext:=fun b o n h=>by
   refine g'.ext b o (fun w=>?_) (g.ext b o n h)
   rcases g.wn b w with z | z
   · exact n z
   · rw [z] at h; cases h
theorem aC {i j:Nat} {x:Option V} (h:i ≠ j):(σ.set i x)[j]?=σ[j]?:=by rw [List.getElem?_set_ne h]
theorem br {i:Nat} {x:Option V} (h:i < σ.length):(σ.set i x)[i]?=some x:=by rw [List.getElem?_set_self h]
theorem R.setP (r:R C md A W ρ σ H) {i:Nat} (hm:aj md i=.pl) {d:D} {v:V} (h:RepP C.K H (fun b=>¬ A b) d v):R C md A W (ρ.set i (some (.d d))) (σ.set i (some v)) H where
 len:=by rw [Z32,Z32]; exact r.len
 wa:=r.wa
 ak:=r.ak
 base:=r.base
 wf:=r.wf
 ma:=r.ma
 fo:=r.fo
 slot:=fun j s e=>by
   by_cases hij:i=j
   · subst hij
     have hl:=bp e
     rw [Z32] at hl
     rw [aV hl] at e
     cases e
     refine ⟨v,br (by rw [r.len]; exact hl),?_⟩
     rw [hm]
     exact h
   · rw [ay hij] at e
     obtain ⟨w,e1,h1⟩:=r.slot j s e
     exact ⟨w,by rw [aC hij]; exact e1,h1⟩
 inj:=fun j k s s' a hjk m1 m2 e1 e2 i1 i2 l1 l2=>by
   have n1:i ≠ j:=fun z=>m1 (by rw [<- z]; exact hm)
   have n2:i ≠ k:=fun z=>m2 (by rw [<- z]; exact hm)
   rw [ay n1] at e1
   rw [ay n2] at e2
   rw [aC n1] at l1
   rw [aC n2] at l2
   exact r.inj j k s s' a hjk m1 m2 e1 e2 i1 i2 l1 l2
theorem Cell.at {K:PySem.W.Frag} {ok okq:Addr->Prop} {s:S} {a:Addr} (i:isM s=true) (h:Cell K A H ok okq s (.ref a)):kW (H a)/\A a/\ok a:=by
 match s,h with
 | .d (.lst l),h=>
   obtain ⟨b,xs,e,h1,h2,h3,h4⟩:=h
   cases e
   exact ⟨.inl ⟨xs,h1⟩,h2,h3⟩
 | .pot ns i r m,h=>
   obtain ⟨p,q,e,h1,h2,h3,h4,_⟩:=h
   cases e
   exact ⟨.inl ⟨_,h1⟩,h3,h4⟩
 | .d .non,h=>cases i
 | .d (.bl _),h=>cases i
 | .d (.int _),h=>cases i
 | .d (.str _),h=>cases i
 | .d (.tup _),h=>cases i
 | .dc kvs,h=>
   obtain ⟨b,ws,e,h1,h2,h3,h4⟩:=h
   cases e
   exact ⟨.inr (.inl ⟨ws,h1⟩),h2,h3⟩
 | .dk kvs,h=>
   obtain ⟨b,ws,e,h1,h2,h3,h4⟩:=h
   cases e
   exact ⟨.inr (.inr (.inl ⟨ws,h1⟩)),h2,h3⟩
 | .dm kvs,h=>
   obtain ⟨b,ws,e,⟨o,h1⟩,h2,h3,h4⟩:=h
   cases e
   exact ⟨.inr (.inr (.inr ⟨_,h1⟩)),h2,h3⟩
 | .dn _,h=>exact h.elim
 | .scr _,h=>exact h.elim
theorem SlotAt.at {s:S} {a:Addr} {m:Md} (hm:m ≠ .pl) (i:isM s=true) (h:SlotAt C A W H s (.ref a) m):kW (H a)/\A a:=by
 cases m with
 | pl=>exact absurd rfl hm
 | ow=>exact ⟨(Cell.at i h).1,(Cell.at i h).2.1⟩
 | lk=>exact ⟨(Cell.at i h).1,(Cell.at i h).2.1⟩
 | io=>exact ⟨(Cell.at i h).1,(Cell.at i h).2.1⟩
theorem Cell.grow {K:PySem.W.Frag} {ok ok' okq:Addr->Prop} {s:S} {v:V} (s1:Same H H') (ha:∀ a,A a->A' a) (hn:∀ a,A' a->A a∨H a=none) (hok:∀ a,H a ≠ none->ok a->ok' a)
   (h:Cell K A H ok okq s v):Cell K A' H' ok' okq s v:=by
 have P:∀ {d:D} {v:V},RepP K H (fun b=>¬ A b) d v->RepP K H' (fun b=>¬ A' b) d v:=fun h=>(h.stay (My.aN s1) fun a xs o z=>⟨s1 _ _ z,fun w=>by
   rcases hn a w with y | y
   · exact o y
   · rw [y] at z; cases z⟩)
 have PL:∀ {d:List D} {v:List V},RepPL K H (fun b=>¬ A b) d v->RepPL K H' (fun b=>¬ A' b) d v:=fun h=>(h.stay (My.aN s1) fun a xs o z=>⟨s1 _ _ z,fun w=>by
   rcases hn a w with y | y
   · exact o y
   · rw [y] at z; cases z⟩)
 cases s with
 | d y37=>
   cases y37 with
   | lst l=>
     obtain ⟨a,xs,e,h1,h2,h3,h4⟩:=h
     exact ⟨a,xs,e,s1 _ _ h1,ha _ h2,hok a (by rw [h1]; simp) h3,PL h4⟩
   | non=>
     exact P h
   | bl y38=>
     exact P h
   | int y39=>
     exact P h
   | str y40=>
     exact P h
   | tup y41=>
     exact P h
 | pot ns i r m=>
   obtain ⟨p,q,e,h1,h2,h3,h4,h5,h6⟩:=h
   refine ⟨p,q,e,s1 _ _ h1,s1 _ _ h2,ha _ h3,hok p (by rw [h1]; simp) h4,fun z=>?_,h6⟩
   rcases hn q z with y | y
   · exact h5 y
   · rw [h2] at y; cases y
 | dc kvs=>
   obtain ⟨a,ws,e,h1,h2,h3,h4,h5⟩:=h
   exact ⟨a,ws,e,s1 _ _ h1,ha _ h2,hok a (by rw [h1]; simp) h3,h4,PL h5⟩
 | dk kvs=>
   obtain ⟨a,ws,e,h1,h2,h3,h4,h5⟩:=h
   exact ⟨a,ws,e,s1 _ _ h1,ha _ h2,hok a (by rw [h1]; simp) h3,h4,PL h5⟩
 | dm kvs=>
   obtain ⟨a,ws,e,⟨o,h1⟩,h2,h3,h4⟩:=h
   exact ⟨a,ws,e,⟨o,s1 _ _ h1⟩,ha _ h2,hok a (by rw [h1]; simp) h3,h4.stay (My.aN s1) fun a xs o z=>⟨s1 _ _ z,fun w=>by
     rcases hn a w with y | y
     · exact o y
     · rw [y] at z; cases z⟩⟩
 | dn kvs=>
   exact h.elim
 | scr y42=>
   exact h.elim
noncomputable def zk (K:PySem.W.Frag) (A:Addr->Prop) (H1:Hp) (a:Addr) (H':Hp):S->Prop
 | .d (.lst l)=>∃ xs,H' a=some (.lst xs)/\RepPL K H' (fun b=>¬ A b/\b ≠ a) l xs
 | .pot ns i r m=>∃ q,H1 q=none/\q ≠ a/\H' a=some (.lst [.ref q,.int i,.int r,.int m])/\H' q=some (.lst (ns.map V.int))
 | .dm kvs=>∃ ws,(∃ o,H' a=some (.ext (NDf a o ws)))/\RepN K H' (fun b=>¬ A b/\b ≠ a) kvs ws
 | .dk kvs=>∃ ws,H' a=some (.dK ws)/\RepKV K H' (fun b=>¬ A b/\b ≠ a) kvs ws
 | .dc kvs=>∃ ws,H' a=some (.dT ws)/\RepKV K H' (fun b=>¬ A b/\b ≠ a) kvs ws
 | _=>False
theorem R.h0 (r:R C md A W ρ σ H) {a:Addr} (h:H a=none):C.H0 a=none:=by
 cases e:C.H0 a with
 | none=>rfl
 | some o=>
   by_cases m:C.M a
   · exact absurd (r.ma a m) (r.fresh h)
   · rw [r.base a o e m] at h; cases h
theorem R.setN (r:R C md A W ρ σ H) {i:Nat} (hm:aj md i=.ow) {s:S} {a:Addr} (ha:H a=none) (s1:Same H H') (n:zk C.K A H a H' s) :
   ∃ A' W',Gr A W H A' W' H'/\R C md A' W' (ρ.set i (some s)) (σ.set i (some (.ref a))) H':=by
 obtain ⟨B,hB,hBa,hBn,hBk,hcell⟩:∃ B:Addr->Prop,(∀ b,B b->H b=none)/\B a/\(∀ b,B b->kW (H' b))/\True/\∀ ok:Addr->Prop,ok a->Cell C.K (fun b=>A b∨B b) H' ok (fun _=>True) s (.ref a):=by
   match s,n with
   | .d (.lst l),⟨xs,h1,h2⟩=>
     refine ⟨fun b=>b=a,fun b e=>by rw [e]; exact ha,rfl,fun b e=>.inl ⟨xs,by rw [e]; exact h1⟩,trivial,fun ok hok=>⟨a,xs,rfl,h1,.inr rfl,hok,h2.mono fun b _ o _ z=>?_⟩⟩
     rcases z with z | z
     · exact o.1 z
     · exact o.2 z
   | .pot ns i r' m,⟨q,hq,hqa,h1,h2⟩=>
     refine ⟨fun b=>b=a,fun b e=>by rw [e]; exact ha,rfl,fun b e=>.inl ⟨_,(show H' b=_ from (congrArg H' e).trans h1)⟩,trivial,fun ok hok=>⟨a,q,rfl,h1,h2,.inr rfl,hok,fun z=>?_,trivial⟩⟩
     rcases z with z | z
     · exact r.fresh hq z
     · exact hqa z
   | .dc kvs,⟨ws,h1,h2,h3⟩=>
     refine ⟨fun b=>b=a,fun b e=>by rw [e]; exact ha,rfl,fun b e=>.inr (.inl ⟨ws,by rw [e]; exact h1⟩),trivial,fun ok hok=>⟨a,ws,rfl,h1,.inr rfl,hok,h2,h3.mono fun b _ o _ z=>?_⟩⟩
     rcases z with z | z
     · exact o.1 z
     · exact o.2 z
   | .dm kvs,⟨ws,⟨o,h1⟩,h2⟩=>
     refine ⟨fun b=>b=a,fun b e=>by rw [e]; exact ha,rfl,fun b e=>.inr (.inr (.inr ⟨_,(congrArg H' (show b=a from e)).trans h1⟩)),trivial,fun ok hok=>⟨a,ws,rfl,⟨o,h1⟩,.inr rfl,hok,h2.mono fun b _ o _ z=>?_⟩⟩
     rcases z with z | z
     · exact o.1 z
     · exact o.2 z
   | .dk kvs,⟨ws,h1,h2,h3⟩=>
     refine ⟨fun b=>b=a,fun b e=>by rw [e]; exact ha,rfl,fun b e=>.inr (.inr (.inl ⟨ws,by rw [e]; exact h1⟩)),trivial,fun ok hok=>⟨a,ws,rfl,h1,.inr rfl,hok,h2,h3.mono fun b _ o _ z=>?_⟩⟩
     rcases z with z | z
     · exact o.1 z
     · exact o.2 z
 refine ⟨fun b=>A b∨B b,fun b=>W b∨b=a,⟨fun b h=>h.imp id (hB b),fun b h=>h.imp id fun e=>by rw [e]; exact ha,Same.ext s1⟩,?_⟩
 have other:∀ j t,i ≠ j->look ρ j=some t->∃ v,σ[j]?=some (some v)/\SlotAt C (fun b=>A b∨B b) (fun b=>W b∨b=a) H' t v (aj md j):=fun j t hij e=>by
   obtain ⟨w,e1,h1⟩:=r.slot j t e
   refine ⟨w,e1,?_⟩
   have hn:∀ b,(A b∨B b)->A b∨H b=none:=fun b h=>h.imp id (hB b)
   have hw:∀ b,(W b∨b=a)->W b∨H b=none:=fun b h=>h.imp id fun e=>by rw [e]; exact ha
   cases em:aj md j with
   | pl=>
     rw [em] at h1
     cases t with
     | scr ns=>
       obtain ⟨a,z,h1⟩:=h1; exact ⟨a,z,h1.same s1⟩
     | dc kvs=>
       obtain ⟨c,ws,z,h1,h2,h3,h4⟩:=h1
       refine ⟨c,ws,z,s1 _ _ h1,fun w=>?_,h3,RepPL.stay (My.aN s1) (fun b xs o z=>⟨s1 _ _ z,fun w=>?_⟩) h4⟩
       · rcases hn c w with y | y
         · exact h2 y
         · rw [y] at h1; cases h1
       · rcases hn b w with y | y
         · exact o y
         · rw [y] at z; cases z
     | dn kvs=>
       obtain ⟨c,ws,z,⟨o,h1⟩,h2,h3⟩:=h1
       refine ⟨c,ws,z,⟨o,s1 _ _ h1⟩,fun w=>?_,h3.stay (My.aN s1) fun b xs o z=>⟨s1 _ _ z,fun w=>?_⟩⟩
       · rcases hn c w with y | y
         · exact h2 y
         · rw [y] at h1; cases h1
       · rcases hn b w with y | y
         · exact o y
         · rw [y] at z; cases z
     | d x=>
       refine RepP.stay (My.aN s1) (fun b xs o z=>⟨s1 _ _ z,fun w=>?_⟩) h1
       rcases hn b w with y | y
       · exact o y
       · rw [y] at z; cases z
     | _=>cases h1
   | ow=>rw [em] at h1; exact Cell.grow s1 (fun b h=>.inl h) hn (fun b _ h=>⟨.inl h.1,h.2⟩) h1
   | lk=>
     rw [em] at h1
     refine Cell.grow s1 (fun b h=>.inl h) hn (fun b nn h z=>?_) h1
     rcases hw b z with y | y
     · exact h y
     · exact nn y
   | io=>rw [em] at h1; exact Cell.grow s1 (fun b h=>.inl h) hn (fun b _ h=>⟨.inl h.1,h.2⟩) h1
 exact {
   len:=by rw [Z32,Z32]; exact r.len
   wa:=fun b h=>h.imp (r.wa b) fun e=>by rw [e]; exact hBa
   ak:=fun b h=>by
     rcases h with h | h
     · exact (r.ak b h).imp (fun ⟨xs,e⟩=>⟨xs,s1 _ _ e⟩) (fun z=>z.imp (fun ⟨xs,e⟩=>⟨xs,s1 _ _ e⟩) (fun z=>z.imp (fun ⟨xs,e⟩=>⟨xs,s1 _ _ e⟩) (fun ⟨xs,e⟩=>⟨xs,s1 _ _ e⟩)))
     · exact hBn b h
   base:=fun b o h1 h2=>s1 _ _ (r.base b o h1 h2)
   wf:=fun b h=>by
     rcases h with h | h
     · exact r.wf b h
     · rw [h]; exact .inl (r.h0 ha)
   ma:=fun b h=>.inl (r.ma b h)
   fo:=fun hf b xs h n=>.inl (r.fo hf b xs h n)
   slot:=fun j t e=>by
     by_cases hij:i=j
     · subst hij
       have hl:=bp e
       rw [Z32] at hl
       rw [aV hl] at e
       cases e
       refine ⟨.ref a,br (by rw [r.len]; exact hl),?_⟩
       rw [hm]
       exact hcell _ ⟨.inr rfl,r.h0 ha⟩
     · rw [ay hij] at e
       obtain ⟨w,e1,h1⟩:=other j t hij e
       exact ⟨w,by rw [aC hij]; exact e1,h1⟩
   inj:=fun j k t t' b hjk m1 m2 e1 e2 i1 i2 l1 l2=>by
     have no:∀ j t,i ≠ j->aj md j ≠ .pl->look ρ j=some t->isM t=true->σ[j]?=some (some (.ref a))->False:=fun j t hij mj ej ij lj=>by
       obtain ⟨w,e1,h1⟩:=r.slot j t ej
       rw [lj] at e1; cases e1
       rcases (SlotAt.at mj ij h1).1 with ⟨xs,z⟩ | ⟨xs,z⟩ | ⟨xs,z⟩ | ⟨xs,z⟩ <;> (rw [ha] at z; cases z)
     have hilt:i < σ.length∨¬ i < σ.length:=Nat.lt_or_ge i σ.length |>.imp id fun h=>by lia
     by_cases n1:i=j
     · subst n1
       have hl:=bp e1
       rw [Z32] at hl
       rw [br (by rw [r.len]; exact hl)] at l1
       cases l1
       rw [ay hjk] at e2
       rw [aC hjk] at l2
       exact no k t' hjk m2 e2 i2 l2
     · by_cases n2:i=k
       · subst n2
         have hl:=bp e2
         rw [Z32] at hl
         rw [br (by rw [r.len]; exact hl)] at l2
         cases l2
         rw [ay n1] at e1
         rw [aC n1] at l1
         exact no j t n1 m1 e1 i1 l1
       · rw [ay n1] at e1
         rw [ay n2] at e2
         rw [aC n1] at l1
         rw [aC n2] at l2
         exact r.inj j k t t' b hjk m1 m2 e1 e2 i1 i2 l1 l2 }
theorem R.write (r:R C md A W ρ σ H) {i:Nat} (hm:aj md i=.ow∨aj md i=.io) {s s':S} {a:Addr} (e:look ρ i=some s) (is:isM s=true) (is':isM s'=true) (ev:σ[i]?=some (some (.ref a))) (b:But a H H') (ha:kW (H' a))
   (n:∀ ok okq:Addr->Prop,ok a->A a->W a->(∀ d v,RepP C.K H (fun b=>¬ A b) d v->RepP C.K H' (fun b=>¬ A b) d v)->Cell C.K A H ok okq s (.ref a)->Cell C.K A H' ok okq s' (.ref a)) :
   Ext W H H'/\R C md A W (ρ.set i (some s')) σ H':=by
 obtain ⟨w,e1,h1⟩:=r.slot i s e
 rw [ev] at e1; cases e1
 have wa:W a/\A a:=by
   rcases hm with hm | hm <;> (rw [hm] at h1; exact ⟨(Cell.at is h1).2.2.1,(Cell.at is h1).2.1⟩)
 have ex:Ext W H H':=fun c o nc h=>b c o (fun z=>nc (by rw [z]; exact wa.1)) h
 have stP:∀ d v,RepP C.K H (fun b=>¬ A b) d v->RepP C.K H' (fun b=>¬ A b) d v:=fun d v h=>r.stayP ex h
 have stPL:∀ d v,RepPL C.K H (fun b=>¬ A b) d v->RepPL C.K H' (fun b=>¬ A b) d v:=fun d v h=>r.stayPL ex h
 have hil:=bp e
 refine ⟨ex,{ len:=by rw [Z32]; exact r.len,wa:=r.wa,ak:=fun c h=>?_,base:=fun c o h1 h2=>?_,wf:=r.wf,ma:=r.ma,fo:=r.fo,slot:=fun j t ej=>?_,inj:=fun j k t t' c hjk m1 m2 e1 e2 i1 i2 l1 l2=>?_ }⟩
 · by_cases hc:c=a
   · rw [hc]; exact ha
   · exact (r.ak c h).imp (fun ⟨xs,z⟩=>⟨xs,b c _ hc z⟩) (fun z=>z.imp (fun ⟨xs,z⟩=>⟨xs,b c _ hc z⟩) (fun z=>z.imp (fun ⟨xs,z⟩=>⟨xs,b c _ hc z⟩) (fun ⟨xs,z⟩=>⟨xs,b c _ hc z⟩)))
 · refine b c o (fun z=>?_) (r.base c o h1 h2)
   rcases r.wf a wa.1 with y | y
   · rw [z,y] at h1; cases h1
   · exact h2 (by rw [z]; exact y)
 · by_cases hij:i=j
   · subst hij
     rw [aV hil] at ej
     cases ej
     refine ⟨.ref a,ev,?_⟩
     rcases hm with hm | hm
     · rw [hm] at h1 ⊢
       exact n _ _ (Cell.at is h1).2.2 wa.2 wa.1 stP h1
     · rw [hm] at h1 ⊢
       exact n _ _ (Cell.at is h1).2.2 wa.2 wa.1 stP h1
   · rw [ay hij] at ej
     obtain ⟨w,e1,h2⟩:=r.slot j t ej
     refine ⟨w,e1,?_⟩
     have keep:∀ c xs,c ≠ a->H c=some (HO.lst xs)->H' c=some (HO.lst xs):=fun c xs hc h=>b c _ hc h
     have cell:∀ ok okq:Addr->Prop,aj md j ≠ .pl->Cell C.K A H ok okq t w->Cell C.K A H' ok okq t w:=fun ok okq mj h=>by
       cases t with
       | d y43=>
         cases y43 with
         | lst l=>
           obtain ⟨c,xs,rfl,g1,g2,g3,g4⟩:=h
           refine ⟨c,xs,rfl,keep c xs (fun z=>?_) g1,g2,g3,stPL _ _ g4⟩
           subst z
           exact r.inj i j s _ c hij (by rcases hm with hm | hm <;> (rw [hm]; simp)) mj e ej is rfl ev e1
         | non=>
           exact stP _ _ h
         | bl y44=>
           exact stP _ _ h
         | int y45=>
           exact stP _ _ h
         | str y46=>
           exact stP _ _ h
         | tup y47=>
           exact stP _ _ h
       | pot ns i' r' m=>
         obtain ⟨p,q,rfl,g1,g2,g3,g4,g5,g6⟩:=h
         refine ⟨p,q,rfl,keep p _ (fun z=>?_) g1,keep q _ (fun z=>g5 (by rw [z]; exact wa.2)) g2,g3,g4,g5,g6⟩
         subst z
         exact r.inj i j s _ p hij (by rcases hm with hm | hm <;> (rw [hm]; simp)) mj e ej is rfl ev e1
       | dc kvs=>
         obtain ⟨c,ws,rfl,g1,g2,g3,g4,g5⟩:=h
         refine ⟨c,ws,rfl,b c _ (fun z=>?_) g1,g2,g3,g4,stPL _ _ g5⟩
         subst z
         exact r.inj i j s _ c hij (by rcases hm with hm | hm <;> (rw [hm]; simp)) mj e ej is rfl ev e1
       | dk kvs=>
         obtain ⟨c,ws,rfl,g1,g2,g3,g4,g5⟩:=h
         refine ⟨c,ws,rfl,b c _ (fun z=>?_) g1,g2,g3,g4,stPL _ _ g5⟩
         subst z
         exact r.inj i j s _ c hij (by rcases hm with hm | hm <;> (rw [hm]; simp)) mj e ej is rfl ev e1
       | dm kvs=>
         obtain ⟨c,ws,rfl,⟨o,g1⟩,g2,g3,g4⟩:=h
         refine ⟨c,ws,rfl,⟨o,b c _ (fun z=>?_) g1⟩,g2,g3,r.stayN ex g4⟩
         subst z
         exact r.inj i j s _ c hij (by rcases hm with hm | hm <;> (rw [hm]; simp)) mj e ej is rfl ev e1
       | dn kvs=>
         exact h.elim
       | scr y48=>
         exact h.elim
     cases em:aj md j with
     | pl=>
       rw [em] at h2
       cases t with
       | d x=>
         exact stP _ _ h2
       | scr ns=>
         obtain ⟨a,z,h2⟩:=h2; exact ⟨a,z,h2.ext ex r.wk⟩
       | dc kvs=>
         obtain ⟨c,ws,z,g1,g2,g3,g4⟩:=h2
         exact ⟨c,ws,z,ex c _ (fun w=>g2 (r.wa c w)) g1,g2,g3,stPL _ _ g4⟩
       | dn kvs=>
         obtain ⟨c,ws,z,⟨o,g1⟩,g2,g3⟩:=h2
         exact ⟨c,ws,z,⟨o,ex c _ (fun w=>g2 (r.wa c w)) g1⟩,g2,r.stayN ex g3⟩
       | _=>first | (cases h2; done) | (cases e3'; done) | (cases e2; done) | (cases e6; done) | contradiction
     | ow=>rw [em] at h2; exact cell _ _ (by rw [em]; simp) h2
     | lk=>rw [em] at h2; exact cell _ _ (by rw [em]; simp) h2
     | io=>rw [em] at h2; exact cell _ _ (by rw [em]; simp) h2
 · have fixl:∀ j t,look (ρ.set i (some s')) j=some t->isM t=true->∃ t0,look ρ j=some t0/\isM t0=true:=fun j t ej ij=>by
     by_cases hij:i=j
     · subst hij; exact ⟨s,e,is⟩
     · rw [ay hij] at ej; exact ⟨t,ej,ij⟩
   obtain ⟨t0,f1,f2⟩:=fixl j t e1 i1
   obtain ⟨t1,f3,f4⟩:=fixl k t' e2 i2
   exact r.inj j k t0 t1 c hjk m1 m2 f1 f3 f2 f4 l1 l2
end
noncomputable abbrev MG:=D->En->Option En
noncomputable abbrev MGs:=List D->En->Option En
noncomputable abbrev MN:=En->Option (S × En)
set_option genInjectivity true in
inductive Fl where
 | nx | brk | ct | ret (s:S)
noncomputable abbrev MS:=En->Option (Fl × En)
noncomputable def LG (C:Cn) (md:List Md) (fx:Nat->Prop) (g:TG) (f:MG):Prop:=∀ (A W:Addr->Prop) (ρ:En) (σ:L2.St) (H:Hp) (v:V) (d:D) (ρ':En) (Q:L2.St->Hp->Prop),R C md A W ρ σ H->RepP C.K H (fun a=>¬ A a) d v->f d ρ=some ρ' ->
 (∀ σ' H',Ext W H H'->R C md A W ρ' σ' H'->Fix fx σ σ'->Q σ' H')->g v σ H Q
noncomputable def LGs (C:Cn) (md:List Md) (fx:Nat->Prop) (g:TGs) (f:MGs):Prop:=∀ (A W:Addr->Prop) (ρ:En) (σ:L2.St) (H:Hp) (vs:List V) (ds:List D) (ρ':En) (Q:L2.St->Hp->Prop),R C md A W ρ σ H->RepPL C.K H (fun a=>¬ A a) ds vs->f ds ρ=some ρ' ->
 (∀ σ' H',Ext W H H'->R C md A W ρ' σ' H'->Fix fx σ σ'->Q σ' H')->g vs σ H Q
noncomputable def LN (C:Cn) (md:List Md) (t:TE) (f:MN):Prop:=∀ (A W:Addr->Prop) (ρ:En) (σ:L2.St) (H:Hp) (Q:VK) (s:S) (ρ':En),R C md A W ρ σ H->f ρ=some (s,ρ') ->
 (∀ a H1 H',Ext W H H1->R C md A W ρ' σ H1->H1 a=none->Same H1 H'->zk C.K A H1 a H' s->Q (.ref a) H')->t σ H Q
noncomputable def NewR (K:PySem.W.Frag) (H0 H:Hp):S->V->Prop
 | .d (.lst l),v=>∃ a xs,v=.ref a/\H0 a=none/\H a=some (.lst xs)/\RepPL K H (fun b=>H0 b=none/\b ≠ a) l xs
 | .d x,v=>RepP K H (fun a=>H0 a=none) x v
 | .dn kvs,v=>∃ a ws,v=.ref a/\H0 a=none/\(∃ o,H a=some (.ext (NDf a o ws)))/\RepN K H (fun b=>H0 b=none/\b ≠ a) kvs ws
 | .dc kvs,v=>∃ a ws,v=.ref a/\H0 a=none/\H a=some (.dT ws)/\RepKV K H (fun b=>H0 b=none/\b ≠ a) kvs ws
 | _,_=>False
theorem NewR.repP {K:PySem.W.Frag} {H0 H:Hp} {d:D} {v:V} (h:NewR K H0 H (.d d) v):RepP K H (fun a=>H0 a=none) d v:=by
 cases d with
 | lst l=>
   obtain ⟨a,xs,rfl,h1,h2,h3⟩:=h
   rw [RepP]
   exact ⟨a,xs,rfl,h2,h1,h3.mono fun _ _ o _=>o.1⟩
 | non=>
   exact h
 | bl y9=>
   exact h
 | int y10=>
   exact h
 | str y11=>
   exact h
 | tup y12=>
   exact h
theorem NewR.ofImm {K:PySem.W.Frag} {H0 H:Hp} {d:D} {v:V} (i:D.imm d=true) (h:Rep K H d v):NewR K H0 H (.d d) v:=by
 have z:RepP K H (fun a=>H0 a=none) d v:=RepP.ofImm i h
 cases d with
 | non=>
   exact z
 | bl y29=>
   exact z
 | int y30=>
   exact z
 | str y31=>
   exact z
 | tup y32=>
   exact z
 | _=>cases i
noncomputable def zl (C:Cn) (H:Hp) (s:S) (v:V):Prop:=NewR C.K C.H0 H s v∨(C.free=true/\∃ x,s=.d x/\RepP C.K H (fun a=>C.H0 a=none∨C.Q a) x v)
noncomputable def EndAt (C:Cn) (md:List Md) (A W:Addr->Prop) (σ:L2.St) (H:Hp) (D:Ends) (ρ':En):Fl->Prop
 | .nx=>∀ A' W' σ' H',Gr A W H A' W' H'->R C md A' W' ρ' σ' H'->Fix (de md) σ σ'->D.nx σ' H'
 | .brk=>∀ A' W' σ' H',Gr A W H A' W' H'->R C md A' W' ρ' σ' H'->Fix (de md) σ σ'->D.bk σ' H'
 | .ct=>∀ A' W' σ' H',Gr A W H A' W' H'->R C md A' W' ρ' σ' H'->Fix (de md) σ σ'->D.ct σ' H'
 | .ret s=>∀ A' W' σ' v H',Gr A W H A' W' H'->R C md A' W' ρ' σ' H'->Fix (de md) σ σ'->zl C H' s v->D.rt v H'
noncomputable def LS (C:Cn) (md:List Md) (t:TS) (f:MS):Prop:=∀ (A W:Addr->Prop) (ρ:En) (σ:L2.St) (H:Hp) (D:Ends) (fl:Fl) (ρ':En),R C md A W ρ σ H->f ρ=some (fl,ρ')->EndAt C md A W σ H D ρ' fl->t D σ H
noncomputable def ah (i:Nat):MG:=fun d ρ=>some (ρ.set i (some (.d d)))
noncomputable def bU:MGs:=fun ds ρ=>match ds with
 | []=>some ρ
 | _=>none
noncomputable def aD (f:MG) (g:MGs):MGs:=fun ds ρ=>match ds with
 | d::r=>(f d ρ).bind fun ρ1=>g r ρ1
 | []=>none
noncomputable def bJ (n:Nat) (g:MGs):MG:=fun d ρ=>match d with
 | .tup l=>if l.length=n then g l ρ else none
 | _=>none
noncomputable def qR (i:D) (v:D):Option S->Option S
 | some (.d (.lst l))=>match i with
   | .int k=>(ixN l.length k).map fun j=>.d (.lst (l.set j v))
   | _=>none
 | _=>none
noncomputable def cD (md:List Md) (x:Nat) (fi:ME):MG:=fun d ρ=>(look ρ x).bind fun _=>(fi ρ).bind fun y=>(res y.2 y.1).bind fun i=>(qR i d (look y.2 x)).bind fun s=>some (y.2.set x (some s))
noncomputable def bC:MS:=fun ρ=>some (.nx,ρ)
noncomputable def av (f g:MS):MS:=fun ρ=>(f ρ).bind fun x=>match x.1 with
 | .nx=>g x.2
 | fl=>some (fl,x.2)
noncomputable def cE (f:ME):MS:=fun ρ=>(f ρ).bind fun x=>some (.nx,x.2)
noncomputable def aJ (md:List Md) (f:ME) (g:MG):MS:=fun ρ=>(f ρ).bind fun x=>(sto md x.2 x.1).bind fun d=>(g d x.2).bind fun ρ'=>some (.nx,ρ')
noncomputable def bq (f:MN) (i:Nat):MS:=fun ρ=>(f ρ).bind fun x=>some (.nx,x.2.set i (some x.1))
noncomputable def b8 (c:MT) (f g:MS):MS:=fun ρ=>(c ρ).bind fun x=>if x.1=true then f x.2 else g x.2
noncomputable def bO (f:ME):MS:=fun ρ=>(f ρ).bind fun x=>(cp (res x.2 x.1)).bind fun d=>some (.ret (.d d),x.2)
noncomputable def ju:S->Option S
 | .d (.lst l)=>if D.immL l=true then some (.d (.lst l)) else none
 | _=>none
noncomputable def cf (f:MN):MS:=fun ρ=>(f ρ).bind fun x=>(ju x.1).bind fun s=>some (.ret s,x.2)
noncomputable def jM (i:Nat):MS:=fun ρ=>(look ρ i).bind fun s=>(ju s).bind fun s=>some (.ret s,ρ)
section
variable {C:Cn} {md:List Md} {fx:Nat->Prop}
theorem kX {i:Nat} (hm:aj md i=.pl) (hf:¬ fx i):LG C md fx (dg i) (ah i):=by
 intro A W ρ σ H v d ρ' Q r h e k
 cases e
 exact k _ H (Ext.refl _ _) (r.setP hm h) fun j fj=>aC (fun z=>hf (by rw [z]; exact fj))
theorem pK:LGs C md fx sw bU:=by
 intro A W ρ σ H vs ds ρ' Q r h e k
 unfold bU at e
 cases ds with
 | nil=>
   cases e; exact ⟨h.nil_inv,k _ H (Ext.refl _ _) r (Fix.refl _ _)⟩
 | _=>cases e
theorem mJ {t:TG} {u:TGs} {f:MG} {g:MGs} (h1:LG C md fx t f) (h2:LGs C md fx u g):LGs C md fx (jy t u) (aD f g):=by
 intro A W ρ σ H vs ds ρ' Q r h e k
 unfold aD at e
 cases ds with
 | cons d ds'=>
   simp only [Z0] at e
   obtain ⟨ρ1,e1,e2⟩:=e
   obtain ⟨v,vr,rfl,p1,p2⟩:=h.cons_inv
   refine ⟨v,vr,rfl,h1 A W ρ σ H v d ρ1 _ r p1 e1 fun σ1 H1 x1 r1 f1=>?_⟩
   exact h2 A W ρ1 σ1 H1 vr ds' ρ' _ r1 (r.stayPL x1 p2) e2 fun σ2 H2 x2 r2 f2=>k σ2 H2 (x1.trans x2) r2 (f1.trans f2)
 | _=>cases e
theorem tZ {n:Nat} {t:TGs} {g:MGs} (h:LGs C md fx t g):LG C md fx (lZ C.K n t) (bJ n g):=by
 intro A W ρ σ H v d ρ' Q r p e k
 unfold bJ at e
 cases d with
 | tup l=>
   replace e:(if l.length=n then g l ρ else none)=some ρ':=e
   split at e
   · rename_i hl
     rw [RepP] at p
     obtain ⟨a,xs,rfl,p1,p2⟩:=p
     exact ⟨a,xs,rfl,p1,by rw [p2.length]; exact hl,h A W ρ σ H xs l ρ' Q r p2 e k⟩
   · cases e
 | _=>cases e
theorem qS {i v:D} {o:Option S} {s:S} (h:qR i v o=some s):∃ l k j,o=some (.d (.lst l))/\i=.int k/\ixN l.length k=some j/\s=.d (.lst (l.set j v)):=by
 cases o with
 | some y33=>
   cases y33 with
   | d y34=>
     cases y34 with
     | lst l=>
       cases i with
       | int k=>
         unfold qR at h
         simp only [Option.map_eq_some_iff] at h
         obtain ⟨j,e,rfl⟩:=h
         exact ⟨l,k,j,rfl,rfl,e,rfl⟩
       | _=>cases h
     | _=>cases h
   | _=>cases h
 | _=>cases h
theorem wK:LS C md yR bC:=by
 intro A W ρ σ H D fl ρ' r e k
 cases e
 exact k A W σ H (Gr.refl _ _ _) r (Fix.refl _ _)
theorem R.mutw {A W A' W':Addr->Prop} {ρ ρ':En} {σ σ':L2.St} {H H':Hp} (r:R C md A W ρ σ H) (g:Gr A W H A' W' H') (r':R C md A' W' ρ' σ' H'):∀ a,W a->True:=fun _ _=>trivial
theorem EndAt.then {A W A' W':Addr->Prop} {ρ ρ1 ρ':En} {σ σ':L2.St} {H H':Hp} {D:Ends} {fl:Fl} (r:R C md A W ρ σ H) (g:Gr A W H A' W' H') (r':R C md A' W' ρ1 σ' H') (f:Fix (de md) σ σ') (h:EndAt C md A W σ H D ρ' fl):EndAt C md A' W' σ' H' D ρ' fl:=by
 cases fl with
 | nx=>exact fun A2 W2 σ2 H2 g2 r2 f2=>h A2 W2 σ2 H2 (g.trans r.wa (r.mutw g r') g2) r2 (f.trans f2)
 | brk=>exact fun A2 W2 σ2 H2 g2 r2 f2=>h A2 W2 σ2 H2 (g.trans r.wa (r.mutw g r') g2) r2 (f.trans f2)
 | ct=>exact fun A2 W2 σ2 H2 g2 r2 f2=>h A2 W2 σ2 H2 (g.trans r.wa (r.mutw g r') g2) r2 (f.trans f2)
 | ret s=>exact fun A2 W2 σ2 v H2 g2 r2 f2 z=>h A2 W2 σ2 v H2 (g.trans r.wa (r.mutw g r') g2) r2 (f.trans f2) z
theorem Ba {t u:TS} {f g:MS} (h1:LS C md t f) (h2:LS C md u g):LS C md (fV t u) (av f g):=by
 intro A W ρ σ H D fl ρ' r e k
 unfold av at e
 simp -iota only [Z0] at e
 obtain ⟨⟨fl1,ρ1⟩,e1,e2⟩:=e
 refine h1 A W ρ σ H _ fl1 ρ1 r e1 ?_
 cases fl1 with
 | nx=>exact fun A1 W1 σ1 H1 g1 r1 f1=>h2 A1 W1 ρ1 σ1 H1 D fl ρ' r1 e2 (EndAt.then r g1 r1 f1 k)
 | brk=>cases e2; exact k
 | ct=>cases e2; exact k
 | ret s=>cases e2; exact k
theorem wL {t:TE} {f:ME} (h:LE C md t f):LS C md (ii t) (cE f):=by
 intro A W ρ σ H D fl ρ' r e k
 unfold cE at e
 simp -iota only [Z0] at e
 obtain ⟨⟨o,ρ1⟩,e1,e2⟩:=e
 cases e2
 exact h A W ρ σ H _ o _ r e1 fun v H1 x1 r1 _=>k A W σ H1 (Gr.ofExt x1) r1 (Fix.refl _ _)
theorem Bb {t:TE} {f:ME} {g:TG} {fg:MG} (h:LE C md t f) (hg:LG C md (de md) g fg):LS C md (kL t g) (aJ md f fg):=by
 intro A W ρ σ H D fl ρ' r e k
 unfold aJ at e
 simp -iota only [Z0] at e
 obtain ⟨⟨o,ρ1⟩,e1,d,e2,ρ2,e3,e4⟩:=e
 cases e4
 refine h A W ρ σ H _ o ρ1 r e1 fun v H1 x1 r1 p1=>?_
 exact hg A W ρ1 σ H1 v d _ _ r1 (p1.sto r1 e2) e3 fun σ2 H2 x2 r2 f2=>k A W σ2 H2 (Gr.ofExt (x1.trans x2)) r2 f2
theorem wM {t:TE} {f:MN} {i:Nat} (hm:aj md i=.ow) (h:LN C md t f):LS C md (kL t (dg i)) (bq f i):=by
 intro A W ρ σ H D fl ρ' r e k
 unfold bq at e
 simp -iota only [Z0] at e
 obtain ⟨⟨s,ρ1⟩,e1,e4⟩:=e
 cases e4
 refine h A W ρ σ H _ s ρ1 r e1 fun a H1 H2 x1 r1 ha s1 n=>?_
 obtain ⟨A2,W2,g2,r2⟩:=r1.setN hm ha s1 n
 refine k A2 W2 _ H2 ((Gr.ofExt x1).trans r.wa (fun _ _=>trivial) g2) r2 fun j fj=>aC (fun z=>?_)
 rcases fj with fj | fj <;> (rw [<- z,hm] at fj; cases fj)
theorem Db {c:TT} {t u:TS} {fc:MT} {f g:MS} (hc:LT C md c fc) (h1:LS C md t f) (h2:LS C md u g):LS C md (sv c t u) (b8 fc f g):=by
 intro A W ρ σ H D fl ρ' r e k
 unfold b8 at e
 simp -iota only [Z0] at e
 obtain ⟨⟨b,ρ1⟩,e1,e2⟩:=e
 refine hc A W ρ σ H _ b ρ1 r e1 fun H1 x1 r1=>?_
 have k':=EndAt.then r (Gr.ofExt x1) r1 (Fix.refl _ _) k
 cases b with
 | true=>exact kQ (h1 A W ρ1 σ H1 D fl ρ' r1 (by simpa using e2) k')
 | false=>exact kP (h2 A W ρ1 σ H1 D fl ρ' r1 (by simpa using e2) k')
theorem jN {o:Option D} {d:D} (h:cp o=some d):o=some d/\D.imm d=true:=by
 unfold cp at h
 split at h
 · split at h
   · cases h; exact ⟨rfl,by assumption⟩
   · cases h
 · cases h
theorem Bc {t:TE} {f:ME} (h:LE C md t f):LS C md (nK t) (bO f):=by
 intro A W ρ σ H D fl ρ' r e k
 unfold bO at e
 simp -iota only [Z0] at e
 obtain ⟨⟨o,ρ1⟩,e1,d,e2,e3⟩:=e
 cases e3
 obtain ⟨e2,hi⟩:=jN e2
 exact h A W ρ σ H _ o _ r e1 fun v H1 x1 r1 p1=>k A W σ v H1 (Gr.ofExt x1) r1 (Fix.refl _ _) (.inl (NewR.ofImm hi (p1.get r1 e2).rep))
theorem gj {s s':S} (h:ju s=some s'):∃ l,s=.d (.lst l)/\s'=s/\D.immL l=true:=by
 cases s with
 | d y35=>
   cases y35 with
   | lst l=>
     replace h:(if D.immL l=true then some (S.d (.lst l)) else none)=some s':=h
     split at h
     · cases h; exact ⟨l,rfl,rfl,by assumption⟩
     · cases h
   | _=>cases h
 | _=>cases h
theorem qT {t:TE} {f:MN} (h:LN C md t f):LS C md (nK t) (cf f):=by
 intro A W ρ σ H D fl ρ' r e k
 unfold cf at e
 simp -iota only [Z0] at e
 obtain ⟨⟨s,ρ1⟩,e1,s',e2,e3⟩:=e
 cases e3
 obtain ⟨l,rfl,rfl,hi⟩:=gj e2
 refine h A W ρ σ H _ _ _ r e1 fun a H1 H2 x1 r1 ha s1 n=>k A W σ (.ref a) H2 (Gr.ofExt (x1.trans (Same.ext s1))) (r1.same s1) (Fix.refl _ _) ?_
 obtain ⟨xs,h1,h2⟩:=n
 exact .inl ⟨a,xs,rfl,r1.h0 ha,h1,RepPL.ofImm hi h2.repL⟩
theorem wN {i:Nat} (hm:aj md i=.ow):LS C md (nK (aU i)) (jM i):=by
 intro A W ρ σ H D fl ρ' r e k
 unfold jM at e
 simp -iota only [Z0] at e
 obtain ⟨s,e1,s',e2,e3⟩:=e
 cases e3
 obtain ⟨l,rfl,rfl,hi⟩:=gj e2
 obtain ⟨v,ev,h1⟩:=r.slot i _ e1
 refine ⟨v,ev,k A W σ v H (Gr.refl _ _ _) r (Fix.refl _ _) ?_⟩
 rw [hm] at h1
 obtain ⟨a,xs,rfl,q2,q3,q4,q5⟩:=h1
 exact .inl ⟨a,xs,rfl,q4.2,q2,RepPL.ofImm hi q5.repL⟩
noncomputable def mK:Option S->Option (List D)
 | some (.d (.lst l))=>some l
 | _=>none
theorem dX {o:Option S} {l:List D} (h:mK o=some l):o=some (.d (.lst l)):=by
 cases o with
 | some y36=>
   cases y36 with
   | d y37=>
     cases y37 with
     | lst m=>
       cases h; rfl
     | _=>cases h
   | _=>cases h
 | _=>cases h
theorem R.cellAt {A W:Addr->Prop} {ρ:En} {σ:L2.St} {H:Hp} {i:Nat} {l:List D} {w:V} (r:R C md A W ρ σ H) (hm:aj md i=.ow∨aj md i=.io) (e:look ρ i=some (.d (.lst l))) (ew:σ[i]?=some (some w)) :
   ∃ a xs,w=.ref a/\H a=some (.lst xs)/\RepPL C.K H (fun b=>¬ A b) l xs:=by
 obtain ⟨w',hw',h1⟩:=r.slot i _ e
 rw [ew] at hw'; cases hw'
 rcases hm with hm | hm <;> (rw [hm] at h1; obtain ⟨a,xs,q1,q2,q3,q4,q5⟩:=h1; exact ⟨a,xs,q1,q2,q5⟩)
theorem R.writeL {A W:Addr->Prop} {ρ:En} {σ:L2.St} {H H':Hp} {i:Nat} {l l':List D} {a:Addr} {ys:List V} (r:R C md A W ρ σ H) (hm:aj md i=.ow∨aj md i=.io) (e:look ρ i=some (.d (.lst l))) (ew:σ[i]?=some (some (.ref a)))
   (b:But a H H') (h:H' a=some (.lst ys)) (rp:RepPL C.K H (fun b=>¬ A b) l' ys):Ext W H H'/\R C md A W (ρ.set i (some (.d (.lst l')))) σ H':=by
 refine r.write hm e rfl rfl ew b (.inl ⟨_,h⟩) fun ok okq oa aa wa st c=>⟨a,ys,rfl,h,aa,oa,?_⟩
 exact r.stayPL (fun c o nc h=>b c o (fun z=>nc (by rw [z]; exact wa)) h) rp
noncomputable def bc (md:List Md) (i:Nat) (f:MA):ME:=fun ρ=>(mK (look ρ i)).bind fun _=>(f ρ).bind fun x=>(stos md x.2 x.1).bind fun ds=>(mK (look x.2 i)).bind fun l=>match ds with
 | [d]=>if l.length < sizeLine then some (.val .non,x.2.set i (some (.d (.lst (l++[d]))))) else none
 | _=>none
theorem qU {i:Nat} {t:TA} {f:MA} (hm:aj md i=.ow∨aj md i=.io) (h:LA C md t f):LE C md (tBM C.K "list" cO (aU i) t) (bc md i f):=by
 intro A W ρ σ H Q o ρ' r e k
 unfold bc at e
 simp -iota only [Z0] at e
 obtain ⟨l0,e0,⟨os,ρ1⟩,e1,ds,e2,l,e3,e4⟩:=e
 cases ds with
 | cons d y38=>
   cases y38 with
   | nil=>
     dsimp only at e4
     split at e4
     · cases e4
       rename_i hz
       have e0:=dX e0
       have e3:=dX e3
       obtain ⟨w,ew,_⟩:=r.slot i _ e0
       obtain ⟨a,xs,rfl,q1,q2⟩:=r.cellAt hm e0 ew
       refine ⟨_,ew,.inl ⟨rfl,xs,.inl (.inl q1)⟩,?_⟩
       refine h A W ρ σ H _ os ρ1 r e1 fun vs H1 x1 r1 p1=>?_
       obtain ⟨v,z,rfl,pv,pz⟩:=(p1.stos r1 e2).cons_inv
       obtain rfl:=pz.nil_inv
       obtain ⟨a',ys,q3,q4,q5⟩:=r1.cellAt hm e3 ew
       cases q3
       refine ⟨a,ys,v,rfl,rfl,q4,by rw [q5.length]; exact hz,?_⟩
       obtain ⟨H2,e5,b2,h2⟩:=My.iC H1 a (.lst (ys++[v]))
       rw [e5]
       obtain ⟨x2,r2⟩:=r1.writeL hm e3 ew b2 h2 (q5.append (.cons pv .nil))
       exact k _ H2 (x1.trans x2) r2 (show RepP _ _ _ _ _ from du)
     · cases e4
   | _=>cases e4
 | _=>cases e4
noncomputable def ot (i:Nat):ME:=fun ρ=>(mK (look ρ i)).bind fun l=>(l[l.length - 1]?).bind fun d=>some (.val d,ρ.set i (some (.d (.lst l.dropLast))))
theorem Bd {i:Nat} (hm:aj md i=.ow∨aj md i=.io):LE C md (Ar C.K "list" CJ (aU i)) (ot i):=by
 intro A W ρ σ H Q o ρ' r e k
 unfold ot at e
 simp -iota only [Z0] at e
 obtain ⟨l,e0,d,e1,e2⟩:=e
 cases e2
 have e0:=dX e0
 obtain ⟨w,ew,_⟩:=r.slot i _ e0
 obtain ⟨a,xs,rfl,q1,q2⟩:=r.cellAt hm e0 ew
 refine ⟨_,ew,.inl ⟨rfl,xs,.inl (.inl q1)⟩,?_⟩
 obtain ⟨y,ey,py⟩:=q2.get e1
 rw [<- q2.length] at ey
 refine ⟨a,xs,y,rfl,rfl,q1,ey,?_⟩
 obtain ⟨H2,e5,b2,h2⟩:=My.iC H a (.lst xs.dropLast)
 rw [e5]
 obtain ⟨x2,r2⟩:=r.writeL hm e0 ew b2 h2 q2.dropLast
 exact k _ H2 x2 r2 (show RepP _ _ _ _ _ from r.stayP x2 py)
theorem RepPL.apart {K:PySem.W.Frag} {H:Hp} {ok:Addr->Prop} {l:List D} {xs:List V} {p:Addr} (h:RepPL K H ok l xs) (hp:H p=none):RepPL K H (fun b=>ok b/\b ≠ p) l xs:=
 h.mono fun b xs o z=>⟨o,fun e=>by subst e; rw [hp] at z; cases z⟩
noncomputable def bV (md:List Md) (fa:MA):MN:=fun ρ=>(fa ρ).bind fun x=>(stos md x.2 x.1).bind fun ds=>if ds.length<=sizeLine then some (.d (.lst ds),x.2) else none
theorem Be {t:TA} {fa:MA} (ha:LA C md t fa):LN C md (nT t) (bV md fa):=by
 intro A W ρ σ H Q s ρ' r0 e k
 unfold bV at e
 simp -iota only [Z0] at e
 obtain ⟨⟨o1,ρ1⟩,e1,ds,e3,e5⟩:=e
 split at e5
 · cases e5
   rename_i hz
   refine ha A W ρ σ H _ o1 _ r0 e1 fun v1 H1 x1 r1 p1=>?_
   have q:=p1.stos r1 e3
   refine ⟨by rw [q.length]; exact hz,fun p hp=>?_⟩
   have s:=aA (o:=.lst v1) hp
   exact k p H1 _ x1 r1 hp s ⟨v1,ar,(q.apart hp).same s⟩
 · cases e5
end
noncomputable def SL (K:PySem.W.Frag) (H:Hp) (ok:Addr->Prop):List S->List V->Prop
 | [],vs=>vs=[]
 | s::ss,vs=>∃ v r,vs=v::r/\tT K H ok s v/\SL K H ok ss r
noncomputable def spP (K:PySem.W.Frag) (m:List S->Option S):Sp:=fun vs H Q _=>∃ ss r,SL K H (fun _=>True) ss vs/\m ss=some r/\∀ v H',Same H H'->NewR K H H' r v->Q v H'
noncomputable def t7 (K:PySem.W.Frag) (H:Hp) (p q:Addr):S->Prop
 | .pot ns i r m=>q ≠ p/\H p=some (.lst [.ref q,.int i,.int r,.int m])/\H q=some (.lst (ns.map V.int))
 | .d (.lst l)=>D.immL l=true/\∃ xs,H p=some (.lst xs)/\RepL K H l xs
 | _=>False
noncomputable def iG:S->Bool
 | .pot _ _ _ _=>true
 | _=>false
noncomputable def Dc (K:PySem.W.Frag) (H H':Hp) (q:Addr) (s0 r:S) (v:V):Prop:=NewR K H H' r v∨(iG s0=true/\∃ x,r=.d x/\RepP K H' (fun a=>H a=none∨a=q) x v)
noncomputable def spM (K:PySem.W.Frag) (m:List S->Option (S × S)):Sp:=fun vs H Q _=>∃ p q s0 ss vs' r s1,vs=.ref p::vs'/\t7 K H p q s0/\SL K H (fun a=>a ≠ p) ss vs'/\m (s0::ss)=some (r,s1) /\
 ∀ v H',But p H H'->t7 K H' p q s1->Dc K H H' q s0 r v->Q v H'
noncomputable def iH:S->Option S
 | .pot ns i r m=>some (.pot ns i r m)
 | .d (.lst l)=>if D.immL l=true then some (.d (.lst l)) else none
 | _=>none
noncomputable def pL:S->S->Option S
 | .pot _ _ _ _,.pot ns i r m=>some (.pot ns i r m)
 | .d (.lst _),.d (.lst l)=>if D.immL l=true then some (.d (.lst l)) else none
 | _,_=>none
noncomputable def bu (md:List Md) (i:Nat) (m:List S->Option (S × S)) (f:MA):ME:=fun ρ=>(look ρ i).bind fun _=>(f ρ).bind fun x=>(stos md x.2 x.1).bind fun ds=>((look x.2 i).bind iH).bind fun s0=>(m (s0::ds.map S.d)).bind fun y=>
 (unD (some y.1)).bind fun d=>(pL s0 y.2).bind fun s1=>some (.val d,x.2.set i (some s1))
section
variable {C:Cn} {md:List Md} {fx:Nat->Prop}
theorem RepT.any {K:PySem.W.Frag} {H:Hp} {ok:Addr->Prop} {d:D} {v:V} (h:RepT K H ok d v):RepP K H (fun _=>True) d v:=by
 cases d with
 | lst l=>
   obtain ⟨a,xs,rfl,h1,h2⟩:=h
   rw [RepP]
   exact ⟨a,xs,rfl,h1,trivial,h2.mono fun _ _ _ _=>trivial⟩
 | non=>
   exact RepP.mono (ok:=ok) (show RepP K H ok _ v from h) fun _ _ _ _=>trivial
 | bl y15=>
   exact RepP.mono (ok:=ok) (show RepP K H ok _ v from h) fun _ _ _ _=>trivial
 | int y16=>
   exact RepP.mono (ok:=ok) (show RepP K H ok _ v from h) fun _ _ _ _=>trivial
 | str y17=>
   exact RepP.mono (ok:=ok) (show RepP K H ok _ v from h) fun _ _ _ _=>trivial
 | tup y18=>
   exact RepP.mono (ok:=ok) (show RepP K H ok _ v from h) fun _ _ _ _=>trivial
end
section
variable {C:Cn} {md:List Md} {fx:Nat->Prop}
theorem SL.ofP {K:PySem.W.Frag} {H:Hp} {ok ok':Addr->Prop} (m:∀ a,ok a->ok' a):∀ {ds:List D} {vs:List V},RepPL K H ok ds vs->SL K H ok' (ds.map S.d) vs
 | [],vs,h=>h.nil_inv
 | d::ds,vs,h=>by
   obtain ⟨v,r,rfl,h1,h2⟩:=h.cons_inv
   exact ⟨v,r,rfl,RepP.mono h1 fun a _ o _=>m a o,SL.ofP m h2⟩
theorem dY {s s':S} (h:iH s=some s'):s'=s/\isM s=true/\∀ l,s=.d (.lst l)->D.immL l=true:=by
 cases s with
 | pot ns i r m=>
   cases h; exact ⟨rfl,rfl,fun l z=>by cases z⟩
 | d y31=>
   cases y31 with
   | lst l=>
     replace h:(if D.immL l=true then some (S.d (.lst l)) else none)=some s':=h
     split at h
     · cases h; rename_i hi; exact ⟨rfl,rfl,fun m z=>by cases z; exact hi⟩
     · cases h
   | _=>cases h
 | _=>cases h
theorem ou {s0 s s':S} (h:pL s0 s=some s'):s'=s/\isM s=true/\(∀ l,s=.d (.lst l)->D.immL l=true)/\∀ ns i r m,s=.pot ns i r m->∃ ns i r m,s0=.pot ns i r m:=by
 cases s0 with
 | pot y32 y33 y34 y35=>
   cases s with
   | pot ns i r m=>
     cases h; exact ⟨rfl,rfl,(fun l z=>by cases z),fun _ _ _ _ _=>⟨_,_,_,_,rfl⟩⟩
   | _=>cases h
 | d y36=>
   cases y36 with
   | lst y37=>
     cases s with
     | d y38=>
       cases y38 with
       | lst l=>
         replace h:(if D.immL l=true then some (S.d (.lst l)) else none)=some s':=h
         split at h
         · cases h; rename_i hi; exact ⟨rfl,rfl,(fun m z=>by cases z; exact hi),(fun _ _ _ _ z=>by cases z)⟩
         · cases h
       | _=>cases h
     | _=>cases h
   | _=>cases h
 | _=>cases h
theorem t8 {i:Nat} {t:TA} {f:MA} {m:List S->Option (S × S)} {E:XK} (hm:aj md i=.ow∨aj md i=.io) (h:LA C md t f):LE C md (gJ (spM C.K m) [] E (b9 (aU i) t)) (bu md i m f):=by
 intro A W ρ σ H Q o ρ' r e k
 unfold bu at e
 simp only [Z0] at e
 obtain ⟨sx,e0,⟨os,ρ1⟩,e1,ds,e2,s0,⟨s0',e3,e3'⟩,⟨y1,y2⟩,e4,d,e5,s1,e6,e7⟩:=e
 cases e7
 cases dt e5
 obtain ⟨rfl,is0,im0⟩:=dY e3'
 obtain ⟨rfl,is1,im1,kd⟩:=ou e6
 obtain ⟨w,ew,_⟩:=r.slot i _ e0
 refine ⟨w,ew,?_⟩
 refine h A W ρ σ H _ os _ r e1 fun vs H1 x1 r1 p1=>?_
 show spM C.K m ((w::vs)++[]) H1 Q E
 rw [Z35]
 dsimp only at e2 e3 e4 e5 e6 is1 im1 kd k
 obtain ⟨w',ew',c1⟩:=r1.slot i _ e3
 rw [ew] at ew'; cases ew'
 obtain ⟨okc,okq,c⟩:∃ okc okq,Cell C.K A H1 okc okq s0 w:=by rcases hm with hm | hm <;> (rw [hm] at c1; exact ⟨_,_,c1⟩)
 obtain ⟨p,q,rfl,io,aq⟩:∃ p q,w=.ref p/\t7 C.K H1 p q s0/\(∀ ns i r m,s0=.pot ns i r m->¬ A q):=by
   cases s0 with
   | pot ns i r m=>
     obtain ⟨p,q,rfl,h1,h2,h3,h4,h5,h6⟩:=c
     exact ⟨p,q,rfl,⟨fun z=>h5 (by rw [z]; exact h3),h1,h2⟩,fun _ _ _ _ _=>h5⟩
   | d y19=>
     cases y19 with
     | lst l=>
       obtain ⟨p,xs,rfl,h1,h2,h3,h4⟩:=c
       exact ⟨p,p,rfl,⟨im0 l rfl,xs,h1,h4.repL⟩,fun _ _ _ _ z=>by cases z⟩
     | _=>first | (cases c; done) | (cases im0; done) | (cases is0; done) | (cases e3'; done) | (cases e2; done) | (cases e6; done) | contradiction
   | _=>first | (cases c; done) | (cases im0; done) | (cases is0; done) | (cases e3'; done) | (cases e2; done) | (cases e6; done) | contradiction
 have ap:A p:=(Cell.at is0 c).2.1
 refine ⟨p,q,s0,ds.map S.d,vs,_,s1,rfl,io,SL.ofP (fun a o z=>o (by rw [z]; exact ap)) (p1.stos r1 e2),e4,fun v H2 b2 io2 n=>?_⟩
 have mu:kW (H2 p):=by
   cases s1 with
   | pot ns i r m=>
     exact .inl ⟨_,io2.2.1⟩
   | d y20=>
     cases y20 with
     | lst l=>
       obtain ⟨_,xs,z,_⟩:=io2; exact .inl ⟨xs,z⟩
     | _=>first | (cases io2; done) | (cases is1; done) | (cases e3'; done) | (cases e2; done) | (cases e6; done) | contradiction
   | _=>first | (cases io2; done) | (cases is1; done) | (cases e3'; done) | (cases e2; done) | (cases e6; done) | contradiction
 obtain ⟨x2,r2⟩:=r1.write hm e3 is0 is1 ew b2 mu (s':=s1) fun ok okq oa aa wa st c=>by
   cases s1 with
   | pot ns i r m=>
     obtain ⟨g1,g2,g3⟩:=io2
     obtain ⟨ns',i',r',m',rfl⟩:=kd ns i r m rfl
     obtain ⟨p',q',z,h1,h2,h3,h4,h5,h6⟩:=c
     cases z
     have:q'=q:=by
       have z:=io.2.1
       rw [h1] at z
       injection z with z; injection z with z; injection z with z; injection z
     subst this
     exact ⟨p,q',rfl,g2,g3,aa,oa,h5,h6⟩
   | d y21=>
     cases y21 with
     | lst l=>
       obtain ⟨_,xs,z,z2⟩:=io2
       exact ⟨p,xs,rfl,z,aa,oa,RepPL.ofImm (im1 l rfl) z2⟩
     | _=>first | (cases kd; done) | (cases io2; done) | (cases im1; done) | (cases is1; done) | (cases e3'; done) | (cases e2; done) | (cases e6; done) | contradiction
   | _=>first | (cases kd; done) | (cases io2; done) | (cases im1; done) | (cases is1; done) | (cases e3'; done) | (cases e2; done) | (cases e6; done) | contradiction
 refine k v H2 (x1.trans x2) r2 ?_
 rcases n with n | ⟨ip,x,z,n⟩
 · exact (show RepP _ _ _ _ _ from n.repP.mono fun a _ o _=>r1.fresh o)
 · cases z
   refine (show RepP _ _ _ _ _ from n.mono fun a _ o _=>?_)
   rcases o with o | o
   · exact r1.fresh o
   · rw [o]
     cases s0 with
     | pot ns i r m=>
       exact aq ns i r m rfl
     | _=>first | (cases aq; done) | (cases ip; done) | (cases e3'; done) | (cases e2; done) | (cases e6; done) | contradiction
end
noncomputable abbrev MI:=En->Option (List D × En)
noncomputable def kY (C:Cn) (A W:Addr->Prop) (J:It) (ds:List D) (H:Hp):Prop:=∀ (A' W':Addr->Prop) (H':Hp),Gr A W H A' W' H'->∀ i,
 (∀ d,ds[i]?=some d->J.go i H'/\∀ x H'',J.yld i H' x H''->Same H' H''/\RepP C.K H'' (fun a=>¬ A' a∨H' a=none) d x)/\(ds.length<=i->J.stop i H')
theorem jO {K:PySem.W.Frag} {ok:Addr->Prop} {H' H'':Hp} {d:D} {x:V} (h:H''=H'/\RepP K H' ok d x):Same H' H''/\RepP K H'' (fun a=>ok a∨H' a=none) d x:=by
 obtain ⟨rfl,h⟩:=h
 exact ⟨fun _ _ e=>e,h.mono fun a xs o _=>.inl o⟩
noncomputable def LI (C:Cn) (md:List Md) (lj:Option Nat) (wi:TI) (f:MI):Prop:=∀ (A W:Addr->Prop) (ρ:En) (σ:L2.St) (H:Hp) (Q:It->Hp->Prop) (ds:List D) (ρ':En),R C md A W ρ σ H->f ρ=some (ds,ρ') ->
 (∀ J H',Ext W H H'->R C md A W ρ' σ H'->(∀ W2:Addr->Prop,(∀ a,W2 a->W a)->(∀ j a s,lj=some j->aj md j ≠ .pl->look ρ' j=some s->isM s=true->σ[j]?=some (some (.ref a))->¬ W2 a)->kY C A W2 J ds H')->Q J H')->wi σ H Q
noncomputable def qV (lo:Int) (n:Nat):List D:=(List.range n).map fun k=>D.int (lo+(k:Nat))
noncomputable def cY (f:MA):MI:=fun ρ=>(f ρ).bind fun x=>(eT x.2 x.1).bind fun ds=>match ds with
 | [.int j]=>if -(2 ^ 62)<=j/\j < 2 ^ 62 then some (qV 0 j.toNat,x.2) else none
 | _=>none
noncomputable def cP (z:Str):List D:=z.cps.toList.map fun c=>D.str ⟨#[c]⟩
noncomputable def Bf:D->Option (List D)
 | .str z=>some (cP z)
 | .tup l=>some l
 | .lst l=>some l
 | _=>none
noncomputable def eM (md:List Md) (f:ME):MI:=fun ρ=>(f ρ).bind fun x=>(sto md x.2 x.1).bind fun d=>(Bf d).bind fun l=>some (l,x.2)
section
variable {C:Cn} {md:List Md}
theorem Bg (A W:Addr->Prop) (lo:Int) (n:Nat) (H:Hp):kY C A W (Itr lo n) (qV lo n) H:=by
 intro A' W' H' g i
 refine ⟨fun d e=>?_,fun h=>?_⟩
 · unfold qV at e
   rw [Z21,Option.map_eq_some_iff] at e
   obtain ⟨k,e1,rfl⟩:=e
   have hk:=Z9.mp e1
   obtain ⟨h1,h2⟩:=hk
   rw [List.length_range] at h1
   rw [List.getElem_range] at h2
   subst h2
   refine ⟨h1,fun x H'' y=>jO ⟨y.1,?_⟩⟩
   rw [y.2]
   exact az
 · simp -iota [qV] at h
   exact h
theorem wO {t:TA} {f:MA} (h:LA C md t f):LI C md none (yS t) (cY f):=by
 intro A W ρ σ H Q ds ρ' r e k
 unfold cY at e
 simp -iota only [Z0] at e
 obtain ⟨⟨os,ρ1⟩,e1,xs,e2,e3⟩:=e
 cases xs with
 | cons y13 y14=>
   cases y13 with
   | int j=>
     cases y14 with
     | nil=>
       dsimp only at e3
       split at e3
       · rename_i hj
         cases e3
         refine h A W ρ σ H _ os _ r e1 fun vs H1 x1 r1 p1=>?_
         obtain ⟨v,rfl,pv⟩:=(p1.get r1 e2).one_inv
         obtain rfl:=pv.int_inv
         exact ⟨j,rfl,hj.1,hj.2,k _ H1 x1 r1 fun W2 _ _=>Bg _ _ _ _ _⟩
       · cases e3
     | _=>cases e3
   | _=>cases e3
 | _=>cases e3
theorem wP {A W:Addr->Prop} {ρ:En} {σ:L2.St} {H:Hp} {W2:Addr->Prop} (r:R C md A W ρ σ H) (hw:∀ a,W2 a->W a) {a:Addr} {xs:List V} {l:List D} (h:H a=some (.lst xs)) (na:¬ W2 a) (p:RepPL C.K H (fun b=>¬ A b) l xs):kY C A W2 (Itl C.K a) l H:=by
 intro A' W' H' g i
 have h':H' a=some (.lst xs):=g.ext a _ na h
 have p':RepPL C.K H' (fun b=>¬ A' b) l xs:=p.stay (g.ext.stayT fun a w=>r.wk a (hw a w)) fun b ys o z=>⟨g.ext b _ (fun w=>o (r.wa b (hw b w))) z,fun w=>by
   rcases g.an b w with y | y
   · exact o y
   · rw [y] at z; cases z⟩
 refine ⟨fun d e=>?_,fun hl=>?_⟩
 · obtain ⟨x,ex,px⟩:=p'.get e
   refine ⟨⟨xs,x,.inl (.inl h'),ex⟩,fun y H'' yl=>jO ⟨yl.1,?_⟩⟩
   have:=yl.2 xs (.inl (.inl h'))
   rw [ex] at this
   cases this
   exact px
 · exact ⟨xs,.inl (.inl h'),by rw [p'.length]; exact hl⟩
theorem Bh {A W:Addr->Prop} {ρ:En} {σ:L2.St} {H:Hp} {W2:Addr->Prop} (r:R C md A W ρ σ H) (hw:∀ a,W2 a->W a) {a:Addr} {xs:List V} {l:List D} (h:SqT C.K H a xs) (p:RepPL C.K H (fun b=>¬ A b) l xs):kY C A W2 (Itt C.K a) l H:=by
 intro A' W' H' g i
 have st:aT C.K H H':=g.ext.stayT fun a w=>r.wk a (hw a w)
 have h':SqT C.K H' a xs:=st _ _ h
 have p':RepPL C.K H' (fun b=>¬ A' b) l xs:=p.stay st fun b ys o z=>⟨g.ext b _ (fun w=>o (r.wa b (hw b w))) z,fun w=>by
   rcases g.an b w with y | y
   · exact o y
   · rw [y] at z; cases z⟩
 refine ⟨fun d e=>?_,fun hl=>?_⟩
 · obtain ⟨x,ex,px⟩:=p'.get e
   refine ⟨⟨xs,x,h',ex⟩,fun y H'' yl=>jO ⟨yl.1,?_⟩⟩
   have:=yl.2 xs h'
   rw [ex] at this
   cases this
   exact px
 · exact ⟨xs,h',by rw [p'.length]; exact hl⟩
theorem Bi (A W:Addr->Prop) (z:Str) (H:Hp):kY C A W (Its z) (cP z) H:=by
 intro A' W' H' g i
 refine ⟨fun d e=>?_,fun h=>?_⟩
 · unfold cP at e
   rw [Z21,Option.map_eq_some_iff] at e
   obtain ⟨c,e1,rfl⟩:=e
   obtain ⟨h1,h2⟩:=Z9.mp e1
   refine ⟨(show i < z.cps.size by simpa using h1),fun x H'' y=>jO ⟨y.1,?_⟩⟩
   obtain ⟨_,c',e2,rfl⟩:=y
   rw [e1] at e2; cases e2
   exact cC
 · simp -iota [cP] at h
   exact h
theorem Bj {t:TE} {f:ME} (h:LE C md t f):LI C md none (wr C.K t) (eM md f):=by
 intro A W ρ σ H Q ds ρ' r e k
 unfold eM at e
 simp -iota only [Z0] at e
 obtain ⟨⟨o,ρ1⟩,e1,d,e2,l,e3,e4⟩:=e
 cases e4
 refine h A W ρ σ H _ o _ r e1 fun v H1 x1 r1 p1=>?_
 have p:=p1.sto r1 e2
 cases d with
 | str z=>
   cases e3
   rw [RepP] at p
   subst p
   exact k _ H1 x1 r1 fun W2 _ _=>Bi _ _ _ _
 | tup l=>
   cases e3
   rw [RepP] at p
   obtain ⟨a,xs,rfl,h1,h2⟩:=p
   exact .inr ⟨⟨xs,h1⟩,k _ H1 x1 r1 fun W2 hw _=>Bh r1 hw h1 h2⟩
 | lst l=>
   cases e3
   rw [RepP] at p
   obtain ⟨a,xs,rfl,h1,h2,h3⟩:=p
   exact .inl ⟨⟨xs,.inl (.inl h1)⟩,k _ H1 x1 r1 fun W2 hw _=>wP r1 hw h1 (fun w=>h2 (r1.wa a (hw a w))) h3⟩
 | _=>first | (cases p; done) | (cases e3; done) | (cases e3'; done) | (cases e2; done) | (cases e6; done) | contradiction
theorem SlotAt.cell {A W:Addr->Prop} {H:Hp} {s:S} {v:V} {m:Md} (hm:m ≠ .pl) (h:SlotAt C A W H s v m):∃ ok okq,Cell C.K A H ok okq s v:=by
 cases m with
 | pl=>exact absurd rfl hm
 | ow=>exact ⟨_,_,h⟩
 | lk=>exact ⟨_,_,h⟩
 | io=>exact ⟨_,_,h⟩
noncomputable abbrev MB:=En->List D->Option (En × List D)
noncomputable def LB (C:Cn) (md:List Md) (nt:Nat) (tb:TB) (f:MB):Prop:=∀ (A W:Addr->Prop) (ρ:En) (σ:L2.St) (H:Hp) (acc:List V) (as:List D) (Q:L2.St->Hp->List V->Prop) (ρ':En) (as':List D),R C md A W ρ σ H->RepPL C.K H (fun a=>¬ A a) as acc->f ρ as=some (ρ',as') ->
 (∀ σ' H' acc',Ext W H H'->R C md A W ρ' σ' H'->RepPL C.K H' (fun a=>¬ A a) as' acc'->Fix (fun j=>nt<=j) σ σ'->Q σ' H' acc')->tb σ H acc Q
noncomputable def iI (md:List Md) (f:ME):MB:=fun ρ as=>(f ρ).bind fun x=>(sto md x.2 x.1).bind fun d=>if as.length < sizeLine then some (x.2,as++[d]) else none
noncomputable def lpM (fg:MG) (ft:MT) (fb:MB):List D->MB
 | [],ρ,as=>some (ρ,as)
 | d::ds,ρ,as=>(fg d ρ).bind fun ρ1=>(ft ρ1).bind fun y=>if y.1=true then (fb y.2 as).bind fun z=>lpM fg ft fb ds z.1 z.2 else lpM fg ft fb ds y.2 as
theorem wQ {nt:Nat} {te:TE} {f:ME} (h:LE C md te f):LB C md nt (mo te) (iI md f):=by
 intro A W ρ σ H acc as Q ρ' as' r ra e k
 unfold iI at e
 simp -iota only [Z0] at e
 obtain ⟨⟨o,ρ1⟩,e1,d,e2,e3⟩:=e
 split at e3
 · rename_i hz
   cases e3
   refine h A W ρ σ H _ o _ r e1 fun v H1 x1 r1 p1=>⟨by rw [ra.length]; exact hz,?_⟩
   exact k σ H1 _ x1 r1 ((r.stayPL x1 ra).append (.cons (p1.sto r1 e2) .nil)) (Fix.refl _ _)
 · cases e3
inductive LbI (C:Cn) (md:List Md) (A W:Addr->Prop) (H0:Hp) (nt:Nat) (σ:L2.St) (fg:MG) (ft:MT) (fb:MB) (ρ':En) (as':List D) (ds:List D) (σ1:L2.St) (H1:Hp) (acc1:List V):Prop
 | mk:∀ ρ1 as1,Ext W H0 H1->R C md A W ρ1 σ1 H1->RepPL C.K H1 (fun a=>¬ A a) as1 acc1->Fix (fun j=>nt<=j) σ σ1->lpM fg ft fb ds ρ1 as1=some (ρ',as')->LbI C md A W H0 nt σ fg ft fb ρ' as' ds σ1 H1 acc1
theorem Dd {nt:Nat} {g:TG} {tt:TT} {tb:TB} {fg:MG} {ft:MT} {fb:MB} (hg:LG C md (fun j=>nt<=j) g fg) (ht:LT C md tt ft) (hb:LB C md nt tb fb) {J:It} {A W:Addr->Prop} {ds:List D} {H0:Hp} (it:kY C A W J ds H0) :
   ∀ (ρ:En) (σ:L2.St) (acc:List V) (as:List D) (Q:L2.St->Hp->List V->Prop) (ρ':En) (as':List D),R C md A W ρ σ H0->RepPL C.K H0 (fun a=>¬ A a) as acc->lpM fg ft fb ds ρ as=some (ρ',as') ->
 (∀ σ' H' acc',Ext W H0 H'->R C md A W ρ' σ' H'->RepPL C.K H' (fun a=>¬ A a) as' acc'->Fix (fun j=>nt<=j) σ σ'->Q σ' H' acc')->lpW g tt tb J σ H0 acc Q:=by
 intro ρ σ acc as Q ρ' as' r ra e k
 refine ⟨fun i m σ1 H1 acc1=>m=ds.length - i/\i<=ds.length/\LbI C md A W H0 nt σ fg ft fb ρ' as' (ds.drop i) σ1 H1 acc1,
   ⟨ds.length,by simp,Z30 _,ρ,as,Ext.refl _ _,r,ra,Fix.refl _ _,by simpa using e⟩,?_⟩
 rintro i m σ1 H1 acc1 ⟨rfl,hi,ρ1,as1,x1,r1,ra1,f1,e1⟩
 obtain ⟨i1,i2⟩:=it A W H1 (Gr.ofExt x1) i
 by_cases hlt:i < ds.length
 · obtain ⟨go,yl⟩:=i1 ds[i] (by simp -iota [hlt])
   rw [List.drop_eq_getElem_cons hlt] at e1
   unfold lpM at e1
   simp -iota only [Z0] at e1
   obtain ⟨ρ2,e2,⟨b,ρ3⟩,e3,e4⟩:=e1
   refine .inr ⟨go,LbI C md A W H0 nt σ fg ft fb ρ' as' (ds.drop (i+1)),?_,?_⟩
   · intro σ' H' acc' h
     exact ⟨ds.length - (i+1),by omega,rfl,hlt,h⟩
   · intro x H'' y
     obtain ⟨sm,px⟩:=yl x H'' y
     replace px:=r1.freshP px
     replace r1:=r1.same sm
     replace ra1:=ra1.same sm
     replace x1:Ext W H0 H'':=x1.trans (Same.ext sm)
     refine hg A W ρ1 σ1 _ x ds[i] ρ2 _ r1 px e2 fun σ2 H2 x2 r2 f2=>?_
     refine ht A W ρ2 σ2 H2 _ b ρ3 r2 e3 fun H3 x3 r3=>?_
     have ra3:=r2.stayPL x3 (r1.stayPL x2 ra1)
     cases b with
     | true=>
       simp -iota only [if_true,Z0] at e4
       obtain ⟨⟨ρ4,as4⟩,e5,e6⟩:=e4
       refine kQ (hb A W ρ3 σ2 H3 acc1 as1 _ ρ4 as4 r3 ra3 e5 fun σ4 H4 acc4 x4 r4 ra4 f4=>?_)
       exact ⟨ρ4,as4,((x1.trans x2).trans x3).trans x4,r4,ra4,(f1.trans f2).trans f4,e6⟩
     | false=>
       simp -iota only [Z47,if_false] at e4
       exact kP ⟨ρ3,as1,(x1.trans x2).trans x3,r3,ra3,f1.trans f2,e4⟩
 · have e0:i=ds.length:=by omega
   subst e0
   rw [List.drop_length] at e1
   cases e1
   exact .inl ⟨i2 (Z10 _),k σ1 H1 acc1 x1 r1 ra1 f1⟩
end
noncomputable def jv (nt:Nat) (ix:List Nat) (ρ:En):En:=List.replicate nt none++ix.map fun j=>look ρ j
noncomputable def kZ (md:List Md) (kp:List Nat) (j:Nat):Md:=match aj md j with
 | .pl=>.pl
 | m=>if kp.contains j then m else .lk
noncomputable def dy (md:List Md) (nt:Nat) (ix kp:List Nat):List Md:=List.replicate nt .pl++ix.map (kZ md kp)
noncomputable def wbk (kp:List Nat) (nt:Nat) (ix:List Nat) (ρI:En):Nat->En->En
 | _,[]=>[]
 | j,x::r=>(if kp.contains j then look ρI (nt+ix.idxOf j) else x)::wbk kp nt ix ρI (j+1) r
noncomputable def wb (kp:List Nat) (nt:Nat) (ix:List Nat) (ρI ρ:En):En:=if kp.isEmpty then ρ else wbk kp nt ix ρI 0 ρ
theorem iJ:∀ {nt k:Nat} {l:En},look (List.replicate nt none++l) k=if k < nt then none else look l (k - nt)
 | 0,k,l=>by simp
 | nt+1,0,l=>by simp [Z22,look]
 | nt+1,k+1,l=>by
   rw [Z22,Z51,look,iJ (nt:=nt) (k:=k)]
   by_cases h:k < nt
   · simp [h]
   · simp [h]
theorem mL {f:Nat->Option S}:∀ {ix:List Nat} {n:Nat},look (ix.map f) n=(ix[n]?).bind f
 | [],n=>by simp [look]
 | j::r,0=>by simp [look]
 | j::r,n+1=>by simp only [Z6,look,List.getElem?_cons_succ]; exact mL
theorem mM:∀ {nt k:Nat} {l:List Md},aj (List.replicate nt .pl++l) k=if k < nt then .pl else aj l (k - nt)
 | 0,k,l=>by simp
 | nt+1,0,l=>by simp [Z22,aj]
 | nt+1,k+1,l=>by
   rw [Z22,Z51,aj,mM (nt:=nt) (k:=k)]
   by_cases h:k < nt
   · simp [h]
   · simp [h]
theorem mN {f:Nat->Md}:∀ {ix:List Nat} {n:Nat},aj (ix.map f) n=((ix[n]?).map f).getD .pl
 | [],n=>by simp [aj]
 | j::r,0=>by simp [aj]
 | j::r,n+1=>by simp only [Z6,aj,List.getElem?_cons_succ]; exact mN
theorem lb {nt:Nat} {ix:List Nat} {ρ:En} {k:Nat} {s:S} (h:look (jv nt ix ρ) k=some s):nt<=k/\∃ j,ix[k - nt]?=some j/\look ρ j=some s:=by
 unfold jv at h
 rw [iJ] at h
 split at h
 · cases h
 · rename_i hk
   rw [mL,Z0] at h
   exact ⟨by lia,h⟩
theorem dZ {nt:Nat} {ix:List Nat} {σ:L2.St} {k j:Nat} (hk:nt<=k) (h:ix[k - nt]?=some j):(cst nt ix σ)[k]?=some (σ.getD j none):=by
 unfold cst
 rw [List.getElem?_append_right (by simpa using hk),List.length_replicate,Z21,h]
 rfl
theorem cF {md:List Md} {nt:Nat} {ix kp:List Nat} {k j:Nat} (hk:nt<=k) (h:ix[k - nt]?=some j):aj (dy md nt ix kp) k=kZ md kp j:=by
 unfold dy
 rw [mM,if_neg (by lia),mN,h]
 rfl
theorem getD_some {σ:L2.St} {j:Nat} {v:V}:σ.getD j none=some v ↔ σ[j]?=some (some v):=by
 rw [Z5]
 cases e:σ[j]? with
 | none=>simp
 | some x=>simp
theorem jP:∀ {ix:List Nat} (hx:ix.Nodup) {a b j:Nat} (h1:ix[a]?=some j) (h2:ix[b]?=some j),a=b
 | [],hx,a,b,j,h1,h2=>by simp at h1
 | x::r,hx,0,0,j,h1,h2=>rfl
 | x::r,hx,0,b+1,j,h1,h2=>by
   simp at h1 h2; subst h1
   exact absurd (List.mem_of_getElem? h2) (List.nodup_cons.mp hx).1
 | x::r,hx,a+1,0,j,h1,h2=>by
   simp at h1 h2; subst h2
   exact absurd (List.mem_of_getElem? h1) (List.nodup_cons.mp hx).1
 | x::r,hx,a+1,b+1,j,h1,h2=>by
   simp at h1 h2
   rw [jP (List.nodup_cons.mp hx).2 h1 h2]
theorem mO {kp:List Nat} {nt:Nat} {ix:List Nat} {ρI:En}:∀ {ρ:En} {j0 j:Nat},look (wbk kp nt ix ρI j0 ρ) j=if j < ρ.length/\kp.contains (j0+j)=true then look ρI (nt+ix.idxOf (j0+j)) else look ρ j
 | [],j0,j=>by simp [wbk,look]
 | x::r,j0,0=>by
   simp only [wbk,look,Nat.add_zero,Z58]
   by_cases h:kp.contains j0=true
   · rw [if_pos h,if_pos ⟨by grind,h⟩]
   · rw [if_neg h,if_neg (fun z=>h z.2)]
 | x::r,j0,j+1=>by
   simp only [wbk,look]
   rw [mO (ρ:=r) (j0:=j0+1) (j:=j),show j0+1+j=j0+(j+1) by grind]
   simp only [Z58,Nat.add_lt_add_iff_right]
theorem pM {kp:List Nat} {nt:Nat} {ix:List Nat} {ρI ρ:En} {j:Nat}:look (wb kp nt ix ρI ρ) j=if j < ρ.length/\j ∈ kp then look ρI (nt+ix.idxOf j) else look ρ j:=by
 unfold wb
 cases kp with
 | nil=>simp
 | cons a r=>
   rw [if_neg (by simp),mO]
   simp only [Nat.zero_add,List.contains_iff_mem]
theorem Bk {kp:List Nat} {nt:Nat} {ix:List Nat} {ρI ρ:En}:(wb kp nt ix ρI ρ).length=ρ.length:=by
 have go:∀ (ρ:En) j,(wbk kp nt ix ρI j ρ).length=ρ.length:=by
   intro ρ
   induction ρ with
   | nil=>intro j; rfl
   | cons x r ih=>intro j; simp [wbk,ih]
 unfold wb
 split
 · rfl
 · exact go _ _
section
variable {C:Cn} {md:List Md} {A W:Addr->Prop} {ρ:En} {σ:L2.St} {H:Hp} {nt:Nat} {ix kp:List Nat}
noncomputable def WI (md:List Md) (kp:List Nat) (ρ:En) (σ:L2.St) (W:Addr->Prop) (a:Addr):Prop:=W a/\∃ j s,j ∈ kp/\aj md j ≠ .pl/\look ρ j=some s/\isM s=true/\σ[j]?=some (some (.ref a))
theorem Cell.okMono {K:PySem.W.Frag} {ok ok' okq okq':Addr->Prop} {s:S} {v:V} (h:Cell K A H ok okq s v) (m:∀ a,isM s=true->v=.ref a->ok a->ok' a) (mq:∀ a,okq a->okq' a):Cell K A H ok' okq' s v:=by
 cases s with
 | d y25=>
   cases y25 with
   | lst l=>
     obtain ⟨a,xs,e,h1,h2,h3,h4⟩:=h
     exact ⟨a,xs,e,h1,h2,m a rfl e h3,h4⟩
   | non=>
     exact h
   | bl y26=>
     exact h
   | int y27=>
     exact h
   | str y28=>
     exact h
   | tup y29=>
     exact h
 | pot ns i r m'=>
   obtain ⟨p,q,e,h1,h2,h3,h4,h5,h6⟩:=h
   exact ⟨p,q,e,h1,h2,h3,m p rfl e h4,h5,mq q h6⟩
 | dc kvs=>
   obtain ⟨a,ws,e,h1,h2,h3,h4⟩:=h
   exact ⟨a,ws,e,h1,h2,m a rfl e h3,h4⟩
 | dk kvs=>
   obtain ⟨a,ws,e,h1,h2,h3,h4⟩:=h
   exact ⟨a,ws,e,h1,h2,m a rfl e h3,h4⟩
 | dm kvs=>
   obtain ⟨a,ws,e,h1,h2,h3,h4⟩:=h
   exact ⟨a,ws,e,h1,h2,m a rfl e h3,h4⟩
 | dn kvs=>
   exact h.elim
 | scr y30=>
   exact h.elim
theorem R.notWI (r:R C md A W ρ σ H) {j:Nat} {s:S} {a:Addr} (hk:j ∉ kp) (hm:aj md j ≠ .pl) (e:look ρ j=some s) (i:isM s=true) (ev:σ[j]?=some (some (.ref a))):¬ WI md kp ρ σ W a:=by
 rintro ⟨_,j',s',k',m',e',i',v'⟩
 exact r.inj j j' s s' a (fun z=>hk (by rw [z]; exact k')) hm m' e e' i i' ev v'
theorem R.inner (r:R C md A W ρ σ H) (hx:ix.Nodup):R C (dy md nt ix kp) A (WI md kp ρ σ W) (jv nt ix ρ) (cst nt ix σ) H where
 len:=by simp [cst,jv]
 wa:=fun a h=>r.wa a h.1
 ak:=r.ak
 base:=r.base
 wf:=fun a h=>r.wf a h.1
 ma:=r.ma
 fo:=r.fo
 slot:=fun k s e=>by
   obtain ⟨hk,j,e1,e2⟩:=lb e
   obtain ⟨v,ev,c⟩:=r.slot j s e2
   refine ⟨v,by rw [dZ hk e1,getD_some.mpr ev],?_⟩
   rw [cF hk e1]
   unfold kZ
   cases em:aj md j with
   | pl=>
     rw [em] at c
     cases s with
     | d x=>
       exact c
     | scr ns=>
       exact c
     | dc kvs=>
       exact c
     | dn kvs=>
       exact c
     | _=>cases c
   | ow=>
     rw [em] at c
     dsimp only
     split
     · rename_i hc
       refine Cell.okMono c (fun a i z o=>⟨⟨o.1,j,s,by simpa using hc,by rw [em]; simp,e2,i,by rw [ev,z]⟩,o.2⟩) (fun _ h=>h)
     · rename_i hc
       exact Cell.okMono c (fun a i z o=>r.notWI (by simpa using hc) (by rw [em]; simp) e2 i (by rw [ev,z])) (fun _ h=>h)
   | lk=>
     rw [em] at c
     dsimp only
     have z:Cell C.K A H (fun a=>¬ WI md kp ρ σ W a) (fun _=>True) s v:=Cell.okMono c (fun a i z o w=>o w.1) (fun _ h=>h)
     split <;> exact z
   | io=>
     rw [em] at c
     dsimp only
     split
     · rename_i hc
       refine Cell.okMono c (fun a i z o=>⟨⟨o.1,j,s,by simpa using hc,by rw [em]; simp,e2,i,by rw [ev,z]⟩,o.2⟩) (fun _ h=>h)
     · rename_i hc
       exact Cell.okMono c (fun a i z o=>r.notWI (by simpa using hc) (by rw [em]; simp) e2 i (by rw [ev,z])) (fun _ _=>trivial)
 inj:=fun k1 k2 s s' a hne m1 m2 e1 e2 i1 i2 l1 l2=>by
   obtain ⟨hk1,j1,f1,g1⟩:=lb e1
   obtain ⟨hk2,j2,f2,g2⟩:=lb e2
   rw [cF hk1 f1] at m1
   rw [cF hk2 f2] at m2
   rw [dZ hk1 f1] at l1
   rw [dZ hk2 f2] at l2
   have n1:aj md j1 ≠ .pl:=fun z=>m1 (by unfold kZ; rw [z])
   have n2:aj md j2 ≠ .pl:=fun z=>m2 (by unfold kZ; rw [z])
   refine r.inj j1 j2 s s' a (fun z=>hne ?_) n1 n2 g1 g2 i1 i2 (getD_some.mp (Z27 l1)) (getD_some.mp (Z27 l2))
   subst z
   have:=jP hx f1 f2
   grind
theorem Ext.mono {W W':Addr->Prop} {H H':Hp} (e:Ext W H H') (m:∀ a,W a->W' a):Ext W' H H':=fun b o n h=>e b o (fun w=>n (m b w)) h
theorem lc {ix:List Nat} {j:Nat} (h:j ∈ ix):ix[ix.idxOf j]?=some j:=by
 have hl:=List.idxOf_lt_length_of_mem h
 rw [Z3 hl]
 congr 1
 exact List.getElem_idxOf hl
theorem R.outer {ρI:En} {σI:L2.St} {H':Hp} (r:R C md A W ρ σ H) (hx:ix.Nodup) (hk:∀ j ∈ kp,j ∈ ix/\(aj md j=.ow∨aj md j=.io)) (r':R C (dy md nt ix kp) A (WI md kp ρ σ W) ρI σI H') (x:Ext (WI md kp ρ σ W) H H')
   (f:Fix (fun j=>nt<=j) (cst nt ix σ) σI):R C md A W (wb kp nt ix ρI ρ) σ H':=by
 have xw:Ext W H H':=x.mono fun a h=>h.1
 have kept:∀ j s,j ∈ kp->look ρI (nt+ix.idxOf j)=some s->∃ v,σ[j]?=some (some v)/\SlotAt C A (WI md kp ρ σ W) H' s v (aj md j):=fun j s hj e=>by
   obtain ⟨hi,hm⟩:=hk j hj
   obtain ⟨v,ev,c⟩:=r'.slot _ s e
   have e1:ix[nt+ix.idxOf j - nt]?=some j:=by rw [Nat.add_sub_cancel_left]; exact lc hi
   rw [cF (Z45 _ _) e1] at c
   have em:kZ md kp j=aj md j:=by
     unfold kZ
     rcases hm with hm | hm <;> (rw [hm]; simp [hj])
   rw [em] at c
   rw [f _ (Z45 _ _),dZ (Z45 _ _) e1] at ev
   exact ⟨v,getD_some.mp (Z27 ev),c⟩
 exact {
   len:=by rw [Bk]; exact r.len
   wa:=r.wa
   ak:=r'.ak
   base:=r'.base
   wf:=r.wf
   ma:=r.ma
   fo:=r.fo
   slot:=fun j s e=>by
     rw [pM] at e
     split at e
     · rename_i hj
       obtain ⟨v,ev,c⟩:=kept j s hj.2 e
       refine ⟨v,ev,?_⟩
       rcases (hk j hj.2).2 with hm | hm
       · rw [hm] at c ⊢
         exact Cell.okMono c (fun a _ _ o=>⟨o.1.1,o.2⟩) (fun _ h=>h)
       · rw [hm] at c ⊢
         exact Cell.okMono c (fun a _ _ o=>⟨o.1.1,o.2⟩) (fun _ h=>h)
     · rename_i hj
       have hj':j ∉ kp:=fun z=>hj ⟨bp e,z⟩
       obtain ⟨v,ev,c⟩:=r.slot j s e
       refine ⟨v,ev,?_⟩
       have cell:∀ ok okq:Addr->Prop,aj md j ≠ .pl->Cell C.K A H ok okq s v->Cell C.K A H' ok okq s v:=fun ok okq mj c=>by
         cases s with
         | d y31=>
           cases y31 with
           | lst l=>
             obtain ⟨a,xs,rfl,h1,h2,h3,h4⟩:=c
             exact ⟨a,xs,rfl,x a _ (r.notWI hj' mj e rfl ev) h1,h2,h3,r.stayPL xw h4⟩
           | non=>
             exact r.stayP xw c
           | bl y32=>
             exact r.stayP xw c
           | int y33=>
             exact r.stayP xw c
           | str y34=>
             exact r.stayP xw c
           | tup y35=>
             exact r.stayP xw c
         | pot ns i r' m'=>
           obtain ⟨p,q,rfl,h1,h2,h3,h4,h5,h6⟩:=c
           exact ⟨p,q,rfl,x p _ (r.notWI hj' mj e rfl ev) h1,x q _ (fun w=>h5 (r.wa q w.1)) h2,h3,h4,h5,h6⟩
         | dc kvs=>
           obtain ⟨a,ws,rfl,h1,h2,h3,h4,h5⟩:=c
           exact ⟨a,ws,rfl,x a _ (r.notWI hj' mj e rfl ev) h1,h2,h3,h4,r.stayPL xw h5⟩
         | dk kvs=>
           obtain ⟨a,ws,rfl,h1,h2,h3,h4,h5⟩:=c
           exact ⟨a,ws,rfl,x a _ (r.notWI hj' mj e rfl ev) h1,h2,h3,h4,r.stayPL xw h5⟩
         | dm kvs=>
           obtain ⟨a,ws,rfl,⟨o,h1⟩,h2,h3,h4⟩:=c
           exact ⟨a,ws,rfl,⟨o,x a _ (r.notWI hj' mj e rfl ev) h1⟩,h2,h3,r.stayN xw h4⟩
         | dn kvs=>
           exact c.elim
         | scr y36=>
           exact c.elim
       cases em:aj md j with
       | pl=>
         rw [em] at c
         cases s with
         | d y=>
           exact r.stayP xw c
         | scr ns=>
           obtain ⟨a,z,c⟩:=c; exact ⟨a,z,c.ext xw r.wk⟩
         | dc kvs=>
           obtain ⟨a,ws,z,c1,c2,c3,c4⟩:=c; exact ⟨a,ws,z,xw a _ (fun w=>c2 (r.wa a w)) c1,c2,c3,r.stayPL xw c4⟩
         | dn kvs=>
           obtain ⟨a,ws,z,⟨o,c1⟩,c2,c3⟩:=c; exact ⟨a,ws,z,⟨o,xw a _ (fun w=>c2 (r.wa a w)) c1⟩,c2,r.stayN xw c3⟩
         | _=>first | (cases c; done) | (cases e3'; done) | (cases e2; done) | (cases e6; done) | contradiction
       | ow=>rw [em] at c; exact cell _ _ (by rw [em]; simp) c
       | lk=>rw [em] at c; exact cell _ _ (by rw [em]; simp) c
       | io=>rw [em] at c; exact cell _ _ (by rw [em]; simp) c
   inj:=fun j1 j2 s s' a hne m1 m2 e1 e2 i1 i2 l1 l2=>by
     rw [pM] at e1 e2
     have back:∀ j s,j ∈ kp->look ρI (nt+ix.idxOf j)=some s->isM s=true->σ[j]?=some (some (.ref a))->WI md kp ρ σ W a:=fun j s hj e i l=>by
       obtain ⟨v,ev,c⟩:=kept j s hj e
       rw [l] at ev; cases ev
       rcases (hk j hj).2 with hm | hm <;> (rw [hm] at c; exact (Cell.at i c).2.2.1)
     by_cases c1:j1 < ρ.length/\j1 ∈ kp
     · rw [if_pos c1] at e1
       by_cases c2:j2 < ρ.length/\j2 ∈ kp
       · rw [if_pos c2] at e2
         have g1:ix[nt+ix.idxOf j1 - nt]?=some j1:=by rw [Nat.add_sub_cancel_left]; exact lc (hk j1 c1.2).1
         have g2:ix[nt+ix.idxOf j2 - nt]?=some j2:=by rw [Nat.add_sub_cancel_left]; exact lc (hk j2 c2.2).1
         have em:∀ j ∈ kp,kZ md kp j ≠ .pl:=fun j hj=>by
           unfold kZ
           rcases (hk j hj).2 with hm | hm <;> (rw [hm]; simp [hj])
         refine r'.inj _ _ s s' a (fun z=>hne ?_) (by rw [cF (Z45 _ _) g1]; exact em j1 c1.2) (by rw [cF (Z45 _ _) g2]; exact em j2 c2.2) e1 e2 i1 i2
           (by rw [f _ (Z45 _ _),dZ (Z45 _ _) g1,getD_some.mpr l1]) (by rw [f _ (Z45 _ _),dZ (Z45 _ _) g2,getD_some.mpr l2])
         rw [z] at g1
         exact Z27 (g1.symm.trans g2)
       · rw [if_neg c2] at e2
         exact r.notWI (fun z=>c2 ⟨bp e2,z⟩) m2 e2 i2 l2 (back j1 s c1.2 e1 i1 l1)
     · rw [if_neg c1] at e1
       by_cases c2:j2 < ρ.length/\j2 ∈ kp
       · rw [if_pos c2] at e2
         exact r.notWI (fun z=>c1 ⟨bp e1,z⟩) m1 e1 i1 l1 (back j2 s' c2.2 e2 i2 l2)
       · rw [if_neg c2] at e2
         exact r.inj j1 j2 s s' a hne m1 m2 e1 e2 i1 i2 l1 l2 }
noncomputable def ox (nt:Nat) (ix kp:List Nat) (fi:MI) (lp:List D->MB):MN:=fun ρ=>(fi ρ).bind fun y=>(lp y.1 (jv nt ix y.2) []).bind fun z=>some (.d (.lst z.2),wb kp nt ix z.1 y.2)
noncomputable def jQ (nt:Nat) (ix kp:List Nat) (fi:MI) (lp:List D->MB):ME:=fun ρ=>(fi ρ).bind fun y=>(lp y.1 (jv nt ix y.2) []).bind fun z=>some (.val (.lst z.2),wb kp nt ix z.1 y.2)
theorem wR {lj:Option Nat} {wi:TI} {g:TG} {tt:TT} {tb:TB} {fi:MI} {fg:MG} {ft:MT} {fb:MB} (hx:ix.Nodup) (hk:∀ j ∈ kp,j ∈ ix/\(aj md j=.ow∨aj md j=.io)) (hl:∀ j,lj=some j->j ∉ kp)
   (hi:LI C md lj wi fi) (hg:LG C (dy md nt ix kp) (fun j=>nt<=j) g fg) (ht:LT C (dy md nt ix kp) tt ft) (hb:LB C (dy md nt ix kp) nt tb fb):LN C md (iB nt ix wi (lpW g tt tb)) (ox nt ix kp fi (lpM fg ft fb)):=by
 intro A W ρ σ H Q s ρ' r e k
 unfold ox at e
 simp only [Z0] at e
 obtain ⟨⟨ds,ρ1⟩,e1,⟨ρ2,as⟩,e2,e3⟩:=e
 cases e3
 refine hi A W ρ σ H _ ds ρ1 r e1 fun J H1 x1 r1 it=>?_
 refine Dd hg ht hb (it (WI md kp ρ1 σ W) (fun a h=>h.1) fun j a s' z mj ej ij lj'=>r1.notWI (hl j z) mj ej ij lj') (jv nt ix ρ1) (cst nt ix σ) [] [] _ ρ2 as (r1.inner hx) .nil e2 fun σ2 H2 acc x2 r2 ra f2=>?_
 have r3:=r1.outer hx hk r2 x2 f2
 intro l hl2
 have s1:=aA (o:=.lst acc) hl2
 exact k l H2 _ (x1.trans (x2.mono fun a h=>h.1)) r3 hl2 s1 ⟨acc,ar,(ra.apart hl2).same s1⟩
theorem wS {t:TE} {f:MN} {g:ME} (h:LN C md t f) (hf:∀ ρ o ρ',g ρ=some (o,ρ')->∃ l,o=.val (.lst l)/\f ρ=some (.d (.lst l),ρ')):LE C md t g:=by
 intro A W ρ σ H Q o ρ' r e k
 obtain ⟨l,rfl,e'⟩:=hf ρ o ρ' e
 refine h A W ρ σ H Q _ ρ' r e' fun a H1 H2 x1 r1 ha s1 n=>?_
 obtain ⟨xs,h1,h2⟩:=n
 refine k _ H2 (x1.trans (Same.ext s1)) (r1.same s1) ?_
 show RepP _ _ _ (.lst l) _
 rw [RepP]
 exact ⟨a,xs,rfl,h1,r1.fresh ha,h2.mono fun _ _ o _=>o.1⟩
theorem wT {lj:Option Nat} {wi:TI} {g:TG} {tt:TT} {tb:TB} {fi:MI} {fg:MG} {ft:MT} {fb:MB} (hx:ix.Nodup) (hk:∀ j ∈ kp,j ∈ ix/\(aj md j=.ow∨aj md j=.io)) (hl:∀ j,lj=some j->j ∉ kp)
   (hi:LI C md lj wi fi) (hg:LG C (dy md nt ix kp) (fun j=>nt<=j) g fg) (ht:LT C (dy md nt ix kp) tt ft) (hb:LB C (dy md nt ix kp) nt tb fb):LE C md (iB nt ix wi (lpW g tt tb)) (jQ nt ix kp fi (lpM fg ft fb)):=by
 refine wS (wR hx hk hl hi hg ht hb) fun ρ o ρ' e=>?_
 unfold jQ at e
 unfold ox
 simp only [Z0] at e ⊢
 obtain ⟨y,e1,z,e2,e3⟩:=e
 cases e3
 exact ⟨z.2,rfl,y,e1,z,e2,rfl⟩
end
noncomputable def bg (fg:MG) (fb:MS):List D->En->Option (Fl × En)
 | [],ρ=>some (.nx,ρ)
 | d::ds,ρ=>(fg d ρ).bind fun ρ1=>(fb ρ1).bind fun x=>match x.1 with
   | .nx=>bg fg fb ds x.2
   | .ct=>bg fg fb ds x.2
   | .brk=>some (.nx,x.2)
   | .ret s=>some (.ret s,x.2)
noncomputable def cq (fi:MI) (fg:MG) (fb:MS):MS:=fun ρ=>(fi ρ).bind fun y=>bg fg fb y.1 y.2
noncomputable def whM (fc:MT) (fb:MS):Nat->En->Option (Fl × En)
 | 0,_=>none
 | n+1,ρ=>(fc ρ).bind fun x=>if x.1=true then (fb x.2).bind fun y=>(match y.1 with
   | .nx=>whM fc fb n y.2
   | .ct=>whM fc fb n y.2
   | .brk=>some (.nx,y.2)
   | .ret s=>some (.ret s,y.2)) else some (.nx,x.2)
noncomputable def bW (n:Nat) (fc:MT) (fb:MS):MS:=whM fc fb n
section
variable {C:Cn} {md:List Md}
inductive FmI (C:Cn) (md:List Md) (A W:Addr->Prop) (H0:Hp) (σ:L2.St) (fg:MG) (fb:MS) (fl:Fl) (ρ':En) (ds:List D) (σ1:L2.St) (H1:Hp):Prop
 | mk:∀ A1 W1 ρ1,Gr A W H0 A1 W1 H1->R C md A1 W1 ρ1 σ1 H1->Fix (de md) σ σ1->bg fg fb ds ρ1=some (fl,ρ')->FmI C md A W H0 σ fg fb fl ρ' ds σ1 H1
theorem wU {g:TG} {tb:TS} {fg:MG} {fb:MS} (hg:LG C md (de md) g fg) (hb:LS C md tb fb) {J:It} {A W:Addr->Prop} {ds:List D} {H0:Hp} (it:kY C A W J ds H0) (ρ:En) (σ:L2.St) (D:Ends) (fl:Fl) (ρ':En) (r:R C md A W ρ σ H0)
   (e:bg fg fb ds ρ=some (fl,ρ')) (k:EndAt C md A W σ H0 D ρ' fl):∃ W:Nat->Nat->L2.St->Hp->Prop,(∃ m,W 0 m σ H0)/\∀ i m σ H,W i m σ H ->
 (J.stop i H/\D.nx σ H)∨(J.go i H/\∃ N:L2.St->Hp->Prop,(∀ σ' H',N σ' H'->∃ m',m' < m/\W (i+1) m' σ' H')/\∀ x H',J.yld i H x H'->g x σ H' fun σ2 H2=>tb { D with nx:=N,ct:=N,bk:=D.nx } σ2 H2):=by
 refine ⟨fun i m σ1 H1=>m=ds.length - i/\i<=ds.length/\FmI C md A W H0 σ fg fb fl ρ' (ds.drop i) σ1 H1,
   ⟨ds.length,by simp,Z30 _,A,W,ρ,Gr.refl _ _ _,r,Fix.refl _ _,by simpa using e⟩,?_⟩
 rintro i m σ1 H1 ⟨rfl,hi,A1,W1,ρ1,g1,r1,f1,e1⟩
 obtain ⟨i1,i2⟩:=it A1 W1 H1 g1 i
 by_cases hlt:i < ds.length
 · obtain ⟨go,yl⟩:=i1 ds[i] (by simp [hlt])
   rw [List.drop_eq_getElem_cons hlt] at e1
   unfold bg at e1
   simp only [Z0] at e1
   obtain ⟨ρ2,e2,⟨fl3,ρ3⟩,e3,e4⟩:=e1
   refine .inr ⟨go,FmI C md A W H0 σ fg fb fl ρ' (ds.drop (i+1)),?_,?_⟩
   · intro σ' H' h
     exact ⟨ds.length - (i+1),by omega,rfl,hlt,h⟩
   · intro x H'' y
     obtain ⟨sm,px⟩:=yl x H'' y
     replace px:=r1.freshP px
     replace g1:Gr A W H0 A1 W1 H'':=g1.trans r.wa (fun _ _=>trivial) (Gr.ofExt (Same.ext sm))
     replace r1:=r1.same sm
     refine hg A1 W1 ρ1 σ1 _ x ds[i] ρ2 _ r1 px e2 fun σ2 H2 x2 r2 f2=>?_
     refine hb A1 W1 ρ2 σ2 H2 _ fl3 ρ3 r2 e3 ?_
     have gg:∀ {A3 W3:Addr->Prop} {H3:Hp} {ρ3:En} {σ3:L2.St},Gr A1 W1 H2 A3 W3 H3->R C md A3 W3 ρ3 σ3 H3->Gr A W H0 A3 W3 H3:=fun g3 r3=>by
       have ga:Gr A1 W1 _ _ _ _:=(Gr.ofExt x2).trans r1.wa (fun _ _=>trivial) g3
       exact g1.trans r.wa (fun _ _=>trivial) ga
     cases fl3 with
     | nx=>exact fun A3 W3 σ3 H3 g3 r3 f3=>⟨A3,W3,ρ3,gg g3 r3,r3,(f1.trans f2).trans f3,e4⟩
     | ct=>exact fun A3 W3 σ3 H3 g3 r3 f3=>⟨A3,W3,ρ3,gg g3 r3,r3,(f1.trans f2).trans f3,e4⟩
     | brk=>cases e4; exact fun A3 W3 σ3 H3 g3 r3 f3=>k A3 W3 σ3 H3 (gg g3 r3) r3 ((f1.trans f2).trans f3)
     | ret s=>cases e4; exact fun A3 W3 σ3 v H3 g3 r3 f3 z=>k A3 W3 σ3 v H3 (gg g3 r3) r3 ((f1.trans f2).trans f3) z
 · have e0:i=ds.length:=by omega
   subst e0
   rw [List.drop_length] at e1
   cases e1
   exact .inl ⟨i2 (Z10 _),k A1 W1 σ1 H1 g1 r1 f1⟩
theorem Bl {wi:TI} {g:TG} {tb:TS} {fi:MI} {fg:MG} {fb:MS} (hi:LI C md none wi fi) (hg:LG C md (de md) g fg) (hb:LS C md tb fb):LS C md (Ad wi g tb) (cq fi fg fb):=by
 intro A W ρ σ H D fl ρ' r e k
 unfold cq at e
 simp only [Z0] at e
 obtain ⟨⟨ds,ρ1⟩,e1,e2⟩:=e
 refine hi A W ρ σ H _ ds ρ1 r e1 fun J H1 x1 r1 it=>?_
 exact wU hg hb (it W (fun _ h=>h) (fun _ _ _ z=>by cases z)) ρ1 σ D fl ρ' r1 e2 (EndAt.then r (Gr.ofExt x1) r1 (Fix.refl _ _) k)
inductive WhI (C:Cn) (md:List Md) (A W:Addr->Prop) (H0:Hp) (σ:L2.St) (fc:MT) (fb:MS) (fl:Fl) (ρ':En) (m:Nat) (σ1:L2.St) (H1:Hp):Prop
 | mk:∀ A1 W1 ρ1,Gr A W H0 A1 W1 H1->R C md A1 W1 ρ1 σ1 H1->Fix (de md) σ σ1->whM fc fb m ρ1=some (fl,ρ')->WhI C md A W H0 σ fc fb fl ρ' m σ1 H1
theorem t9 {c:TT} {tb:TS} {fc:MT} {fb:MS} (n:Nat) (hc:LT C md c fc) (hb:LS C md tb fb):LS C md (sy c tb) (bW n fc fb):=by
 intro A W ρ σ H D fl ρ' r e k
 unfold bW at e
 refine ⟨WhI C md A W H σ fc fb fl ρ',⟨n,A,W,ρ,Gr.refl _ _ _,r,Fix.refl _ _,e⟩,?_⟩
 rintro m σ1 H1 ⟨A1,W1,ρ1,g1,r1,f1,e1⟩
 cases m with
 | zero=>cases e1
 | succ m=>
   unfold whM at e1
   simp only [Z0] at e1
   obtain ⟨⟨b,ρ2⟩,e2,e3⟩:=e1
   refine hc A1 W1 ρ1 σ1 H1 _ b ρ2 r1 e2 fun H2 x2 r2=>?_
   have gg:∀ {A3 W3:Addr->Prop} {H3:Hp} {ρ3:En} {σ3:L2.St},Gr A1 W1 H2 A3 W3 H3->R C md A3 W3 ρ3 σ3 H3->Gr A W H A3 W3 H3:=fun g3 r3=>by
     have ga:Gr A1 W1 _ _ _ _:=(Gr.ofExt x2).trans r1.wa (fun _ _=>trivial) g3
     exact g1.trans r.wa (fun _ _=>trivial) ga
   cases b with
   | false=>
     simp only [Z47,if_false] at e3
     cases e3
     exact kP (k A1 W1 σ1 H2 (gg (Gr.refl _ _ _) r2) r2 f1)
   | true=>
     simp only [if_true,Z0] at e3
     obtain ⟨⟨fl3,ρ3⟩,e4,e5⟩:=e3
     refine kQ ⟨WhI C md A W H σ fc fb fl ρ' m,?_,?_⟩
     · rintro σ' H' h
       exact ⟨m,Nat.lt_succ_self m,h⟩
     · refine hb A1 W1 ρ2 σ1 H2 _ fl3 ρ3 r2 e4 ?_
       cases fl3 with
       | nx=>exact fun A3 W3 σ3 H3 g3 r3 f3=>⟨A3,W3,ρ3,gg g3 r3,r3,f1.trans f3,e5⟩
       | ct=>exact fun A3 W3 σ3 H3 g3 r3 f3=>⟨A3,W3,ρ3,gg g3 r3,r3,f1.trans f3,e5⟩
       | brk=>cases e5; exact fun A3 W3 σ3 H3 g3 r3 f3=>k A3 W3 σ3 H3 (gg g3 r3) r3 (f1.trans f3)
       | ret s=>cases e5; exact fun A3 W3 σ3 v H3 g3 r3 f3 z=>k A3 W3 σ3 v H3 (gg g3 r3) r3 (f1.trans f3) z
end
noncomputable def cZ (n:Nat) (ss:List S):En:=ss.map some++List.replicate (n - ss.length) none
noncomputable def pN:Option (Fl × En)->Option S
 | some (.ret s,_)=>some s
 | some (.nx,_)=>some (.d .non)
 | _=>none
noncomputable def mFn (n np:Nat) (mb:MS) (ss:List S):Option S:=if ss.length=np then pN (mb (cZ n ss)) else none
noncomputable def qW:Option (Fl × En)->Option (S × S)
 | some (.ret s,ρ)=>((look ρ 0).bind iH).map fun s0=>(s,s0)
 | some (.nx,ρ)=>((look ρ 0).bind iH).map fun s0=>(.d .non,s0)
 | _=>none
noncomputable def wV (n np:Nat) (mb:MS) (ss:List S):Option (S × S):=if ss.length=np then qW (mb (cZ n ss)) else none
theorem bX:∀ {ss:List S} {k i:Nat},look (ss.map some++List.replicate k none) i=ss[i]?
 | [],0,i=>by simp [look]
 | [],k+1,i=>by
   rw [List.map_nil,List.nil_append]
   have:=iJ (nt:=k+1) (k:=i) (l:=[])
   rw [Z35] at this
   rw [this]
   split <;> simp [look]
 | s::r,k,0=>by simp [look]
 | s::r,k,i+1=>by
   simp only [Z6,Z51,look,List.getElem?_cons_succ]
   exact bX
theorem SL.length {K:PySem.W.Frag} {H:Hp} {ok:Addr->Prop}:∀ {ss:List S} {vs:List V},SL K H ok ss vs->vs.length=ss.length
 | [],vs,h=>by rw [show vs=[] from h]; rfl
 | s::ss,vs,h=>by
   obtain ⟨v,r,rfl,_,h2⟩:=h
   simp [SL.length h2]
theorem SL.get {K:PySem.W.Frag} {H:Hp} {ok:Addr->Prop}:∀ {ss:List S} {vs:List V} {i:Nat} {s:S},SL K H ok ss vs->ss[i]?=some s->∃ v,vs[i]?=some v/\tT K H ok s v
 | [],vs,i,s,h,e=>by simp at e
 | s'::ss,vs,0,s,h,e=>by
   obtain ⟨v,r,rfl,h1,_⟩:=h
   simp at e; subst e
   exact ⟨v,rfl,h1⟩
 | s'::ss,vs,i+1,s,h,e=>by
   obtain ⟨v,r,rfl,_,h2⟩:=h
   simp at e
   obtain ⟨w,e1,h3⟩:=SL.get h2 e
   exact ⟨w,by simpa using e1,h3⟩
theorem ee {N:List Str} {vs:List V} {i:Nat} {v:V} (h:vs[i]?=some v):(L2.start N vs)[i]?=some (some v):=by
 unfold L2.start
 obtain ⟨hl,_⟩:=Z9.mp h
 rw [List.getElem?_append_left (by simpa using hl),Z21,h]
 rfl
theorem R.start {K:PySem.W.Frag} {md:List Md} {N:List Str} {ss:List S} {vs:List V} {H:Hp} (h:SL K H (fun _=>True) ss vs) (hN:ss.length<=N.length) (hmd:∀ i,i < ss.length->aj md i=.pl) :
   R ⟨K,H,fun _=>False,fun _=>False,false⟩ md (fun _=>False) (fun _=>False) (cZ N.length ss) (L2.start N vs) H where
 len:=by simp [L2.start,cZ,h.length]
 wa:=fun _ h=>h
 ak:=fun _ h=>h.elim
 base:=fun _ _ h _=>h
 wf:=fun _ h=>h.elim
 ma:=fun _ h=>h
 fo:=fun h=>by cases h
 slot:=fun i s e=>by
   unfold cZ at e
   rw [bX] at e
   obtain ⟨v,ev,c⟩:=h.get e
   refine ⟨v,ee ev,?_⟩
   rw [hmd i (Z9.mp e).1]
   cases s with
   | d x=>
     exact RepP.mono c fun _ _ _ _ z=>z
   | scr ns=>
     exact c
   | dc kvs=>
     obtain ⟨a,ws,z,c1,c2,c3,c4⟩:=c; exact ⟨a,ws,z,c1,fun z=>z,c3,RepPL.mono c4 fun _ _ _ _ z=>z⟩
   | dn kvs=>
     obtain ⟨a,ws,z,c1,c2,c3⟩:=c; exact ⟨a,ws,z,c1,fun z=>z,c3.mono fun _ _ _ _ z=>z⟩
   | _=>cases c
 inj:=fun i j s s' a hne m1 m2 e1 e2 i1 i2 l1 l2=>by
   unfold cZ at e1
   rw [bX] at e1
   exact m1 (hmd i (Z9.mp e1).1)
section
variable {P:Program} {w:World} {K:PySem.W.Frag} {mg:Str->Option Value} {base:Heap}
theorem oy {o:Option (Fl × En)} {r:S} (h:pN o=some r):(∃ ρ,o=some (.ret r,ρ))∨∃ ρ,o=some (.nx,ρ)/\r=.d .non:=by
 match o,h with
 | some (.ret s,ρ),h=>cases h; exact .inl ⟨ρ,rfl⟩
 | some (.nx,ρ),h=>cases h; exact .inr ⟨ρ,rfl,rfl⟩
theorem pO {x qual:Str} {st:Stmt} {f:Addr} {fd:FuncData} {N ps:List Str} {k:Nat} {md:List Md} {mb:MS} (F:Fun K x qual st f fd) (S0:FnScope N ps (ag st)) (hp:ps.length<=N.length) (hmd:∀ i,i < ps.length->aj md i=.pl)
   (hb:∀ (cdv:Value) (A:Around) (outer:List Env) (s:Shared) (H:Hp) (E:XK),Room k (A.deeper (envOfC qual (ag st) s.heap.objs.size f cdv)) ->
     ∃ t,PSs (iq CX0 P w K mg base N qual (ag st) f cdv A outer s H E).nox (ax st) t/\∀ C:Cn,C.K=K->LS C md t mb) :
   FnOk P w K mg base CX0 (k+1) f fd ps (spP K (mFn N.length ps.length mb)):=by
 refine F.ok S0 (fun vs H Q E h=>?_) (fun cdv A outer s H vs Q E hr h=>?_)
 · obtain ⟨ss,r,h1,h2,_⟩:=h
   unfold mFn at h2
   split at h2
   · rw [h1.length]; assumption
   · cases h2
 · obtain ⟨ss,r,h1,h2,q⟩:=h
   obtain ⟨t,ht,hl⟩:=hb cdv A outer s H E hr
   refine ⟨t,ht,?_⟩
   unfold mFn at h2
   split at h2
   · rename_i hlen
     have R0:=R.start (N:=N) (md:=md) h1 (by exact Z24 (Nat.le_of_eq hlen) hp) (fun i hi=>hmd i (by exact Z15 hi (Nat.le_of_eq hlen)))
     have same:∀ {A' W':Addr->Prop} {ρ':En} {σ':L2.St} {H':Hp},R ⟨K,H,fun _=>False,fun _=>False,false⟩ md A' W' ρ' σ' H'->Same H H':=fun r b o e=>r.base b o e (fun z=>z)
     rcases oy h2 with ⟨ρ',e⟩ | ⟨ρ',e,rfl⟩
     · exact hl ⟨K,H,fun _=>False,fun _=>False,false⟩ rfl _ _ _ _ _ _ _ ρ' R0 e fun A' W' σ' v H' g r' f' z=>q v H' (same r') (by rcases z with z | z; exact z; cases z.1)
     · exact hl ⟨K,H,fun _=>False,fun _=>False,false⟩ rfl _ _ _ _ _ _ _ ρ' R0 e fun A' W' σ' H' g r' f'=>q .non H' (same r') (show RepP _ _ _ _ _ from du)
   · cases h2
noncomputable def ua:S->Bool
 | .d x=>D.imm x
 | _=>false
theorem R.startM {md:List Md} {N:List Str} {s0:S} {ss:List S} {vs:List V} {H:Hp} {p q:Addr} (fr:Bool) (hfr:fr=true->∀ s ∈ ss,ua s=true) (io:t7 K H p q s0) (h:SL K H (fun a=>a ≠ p) ss vs) (hN:ss.length+1<=N.length) (hm0:aj md 0=.io) (hmd:∀ i,i < ss.length->aj md (i+1)=.pl) :
   R ⟨K,H,fun a=>a=p,fun a=>a=q,fr⟩ md (fun a=>a=p∨(fr=true/\a ≠ q/\∃ xs,H a=some (.lst xs))) (fun a=>a=p) (cZ N.length (s0::ss)) (L2.start N (.ref p::vs)) H where
 len:=by simp [L2.start,cZ,h.length]
 wa:=fun _ h=>.inl h
 ak:=fun a e=>by
   rcases e with e | ⟨_,_,e⟩
   · cases s0 with
     | pot ns i r m=>
       exact .inl ⟨_,(congrArg H e).trans io.2.1⟩
     | d y17=>
       cases y17 with
       | lst l=>
         obtain ⟨_,xs,z,_⟩:=io; exact .inl ⟨xs,(congrArg H e).trans z⟩
       | _=>first | (cases io; done) | (cases e3'; done) | (cases e2; done) | (cases e6; done) | contradiction
     | _=>first | (cases io; done) | (cases e3'; done) | (cases e2; done) | (cases e6; done) | contradiction
   · exact .inl e
 base:=fun _ _ h _=>h
 wf:=fun _ h=>.inr h
 ma:=fun _ h=>.inl h
 fo:=fun hf a xs h n=>.inr ⟨hf,n,xs,h⟩
 slot:=fun i s e=>by
   unfold cZ at e
   rw [bX] at e
   match i,e with
   | 0,e=>
     simp at e; subst e
     refine ⟨.ref p,ee rfl,?_⟩
     rw [hm0]
     cases s0 with
     | pot ns i r m=>
       refine ⟨p,q,rfl,io.2.1,io.2.2,.inl rfl,⟨rfl,rfl⟩,fun z=>?_,rfl⟩
       rcases z with z | ⟨_,z,_⟩
       · exact io.1 z
       · exact z rfl
     | d y18=>
       cases y18 with
       | lst l=>
         obtain ⟨im,xs,z,z2⟩:=io
         exact ⟨p,xs,rfl,z,.inl rfl,⟨rfl,rfl⟩,RepPL.ofImm im z2⟩
       | _=>first | (cases io; done) | (cases e3'; done) | (cases e2; done) | (cases e6; done) | contradiction
     | _=>first | (cases io; done) | (cases e3'; done) | (cases e2; done) | (cases e6; done) | contradiction
   | i+1,e=>
     simp at e
     obtain ⟨v,ev,c⟩:=h.get e
     refine ⟨v,ee (by simpa using ev),?_⟩
     rw [hmd i (Z9.mp e).1]
     have hmem:s ∈ ss:=List.mem_of_getElem? e
     cases s with
     | d x=>
       cases fr with
       | true=>exact RepP.ofImm (hfr rfl _ hmem) (RepP.rep c)
       | false=>exact RepP.mono c fun a _ o _ z=>by rcases z with z | z; exact o z; cases z.1
     | scr ns=>
       exact c
     | dc kvs=>
       obtain ⟨b,ws,z,c1,c2,c3,c4⟩:=c
       cases fr with
       | true=>
         have hi:=hfr rfl _ hmem
         cases hi
       | false=>
         refine ⟨b,ws,z,c1,fun y=>?_,c3,RepPL.mono c4 fun a _ o _ z=>?_⟩
         · rcases y with y | y
           · exact c2 y
           · cases y.1
         · rcases z with z | z
           · exact o z
           · cases z.1
     | dn kvs=>
       obtain ⟨b,ws,z,c1,c2,c3⟩:=c
       cases fr with
       | true=>
         have hi:=hfr rfl _ hmem
         cases hi
       | false=>
         refine ⟨b,ws,z,c1,fun y=>?_,c3.mono fun a _ o _ z=>?_⟩
         · rcases y with y | y
           · exact c2 y
           · cases y.1
         · rcases z with z | z
           · exact o z
           · cases z.1
     | _=>first | (cases hmem; done) | (cases c; done) | (cases e3'; done) | (cases e2; done) | (cases e6; done) | contradiction
 inj:=fun i j s s' a hne m1 m2 e1 e2 i1 i2 l1 l2=>by
   unfold cZ at e1 e2
   rw [bX] at e1 e2
   have z:∀ i s,(s0::ss)[i]?=some s->aj md i ≠ .pl->i=0:=fun i s e m=>by
     match i,e with
     | 0,_=>rfl
     | i+1,e=>exact absurd (hmd i (Z9.mp (by simpa using e)).1) m
   exact hne ((z i s e1 m1).trans (z j s' e2 m2).symm)
theorem qX {o:Option (Fl × En)} {y:S × S} (h:qW o=some y):∃ ρ,look ρ 0=some y.2/\iH y.2=some y.2/\((o=some (.ret y.1,ρ))∨(o=some (.nx,ρ)/\y.1=.d .non)):=by
 match o,h with
 | some (.ret s,ρ),h=>
   replace h:((look ρ 0).bind iH).map (fun s0=>(s,s0))=some y:=h
   simp only [Option.map_eq_some_iff,Z0] at h
   obtain ⟨s0,⟨s1,e1,e2⟩,rfl⟩:=h
   obtain ⟨rfl,_⟩:=dY e2
   exact ⟨ρ,e1,e2,.inl rfl⟩
 | some (.nx,ρ),h=>
   replace h:((look ρ 0).bind iH).map (fun s0=>((.d .non:S),s0))=some y:=h
   simp only [Option.map_eq_some_iff,Z0] at h
   obtain ⟨s0,⟨s1,e1,e2⟩,rfl⟩:=h
   obtain ⟨rfl,_⟩:=dY e2
   exact ⟨ρ,e1,e2,.inr ⟨rfl,rfl⟩⟩
noncomputable def ld (fr:Bool) (n np:Nat) (mb:MS) (ss:List S):Option (S × S):=if fr=true/\(ss.tail.all ua=false∨(ss.head?.map iG).getD false=false) then none else wV n np mb ss
theorem De {x qual:Str} {st:Stmt} {f:Addr} {fd:FuncData} {N ps:List Str} {k:Nat} {md:List Md} {mb:MS} (fr:Bool) (F:Fun K x qual st f fd) (S0:FnScope N ps (ag st)) (hp:ps.length<=N.length) (hm0:aj md 0=.io) (hmd:∀ i,i+1 < ps.length->aj md (i+1)=.pl)
   (hb:∀ (cdv:Value) (A:Around) (outer:List Env) (s:Shared) (H:Hp) (E:XK),Room k (A.deeper (envOfC qual (ag st) s.heap.objs.size f cdv)) ->
     ∃ t,PSs (iq CX0 P w K mg base N qual (ag st) f cdv A outer s H E).nox (ax st) t/\∀ C:Cn,C.K=K->C.free=fr->LS C md t mb) :
   FnOk P w K mg base CX0 (k+1) f fd ps (spM K (ld fr N.length ps.length mb)):=by
 refine F.ok S0 (fun vs H Q E h=>?_) (fun cdv A outer s H vs Q E hr h=>?_)
 · obtain ⟨p,q,s0,ss,vs',r,s1,rfl,io,h1,h2,_⟩:=h
   unfold ld at h2
   split at h2
   · cases h2
   unfold wV at h2
   split at h2
   · rw [Z58,h1.length]; assumption
   · cases h2
 · obtain ⟨p,q,s0,ss,vs',r,s1,rfl,io,h1,h2,kq⟩:=h
   obtain ⟨t,ht,hl⟩:=hb cdv A outer s H E hr
   refine ⟨t,ht,?_⟩
   unfold ld at h2
   split at h2
   · cases h2
   rename_i hfr
   have hfr':fr=true->∀ s ∈ ss,ua s=true:=fun z s hs=>by
     have:=hfr
     have e:ss.all ua=true:=by
       cases e:ss.all ua with
       | true=>rfl
       | false=>exact absurd ⟨z,.inl e⟩ this
     exact Z50.mp e s hs
   unfold wV at h2
   split at h2
   · rename_i hlen
     rw [Z58] at hlen
     have R0:=R.startM (N:=N) (md:=md) fr hfr' io h1 (by exact Z24 (Nat.le_of_eq hlen) hp) hm0 (fun i hi=>hmd i (by lia))
     obtain ⟨ρ',e1,e2,e3⟩:=qX h2
     obtain ⟨_,is1,im1⟩:=dY e2
     dsimp only at e1 e2 e3 is1 im1
     have fin:∀ {A' W':Addr->Prop} {σ':L2.St} {H':Hp},R ⟨K,H,fun a=>a=p,fun a=>a=q,fr⟩ md A' W' ρ' σ' H'->Fix (de md) (L2.start N (.ref p::vs')) σ'->But p H H'/\t7 K H' p q s1/\(iG s0=true∨∃ l,s1=.d (.lst l)∨iG s0=iG s0):=fun {A' W' σ' H'} r' f'=>by
       refine ⟨fun b o n e=>r'.base b o e n,?_,.inr ⟨[],.inr rfl⟩⟩
       obtain ⟨v,ev,c⟩:=r'.slot 0 _ e1
       rw [f' 0 (.inr hm0),ee (i:=0) (v:=.ref p) rfl] at ev
       cases ev
       rw [hm0] at c
       cases s1 with
       | pot ns i r m=>
         obtain ⟨p',q',z,g1,g2,g3,g4,g5,g6⟩:=c
         cases z
         have:q'=q:=g6
         subst this
         exact ⟨fun z=>g5 (by rw [z]; exact g3),g1,g2⟩
       | d y19=>
         cases y19 with
         | lst l=>
           obtain ⟨a,xs,z,g1,g2,g3,g4⟩:=c
           cases z
           exact ⟨im1 l rfl,xs,g1,g4.repL⟩
         | _=>first | (cases c; done) | (cases im1; done) | (cases is1; done) | (cases e3'; done) | (cases e2; done) | (cases e6; done) | contradiction
       | _=>first | (cases c; done) | (cases im1; done) | (cases is1; done) | (cases e3'; done) | (cases e2; done) | (cases e6; done) | contradiction
     have newm:∀ {H':Hp} {v:V},zl ⟨K,H,fun a=>a=p,fun a=>a=q,fr⟩ H' r v->(iG s0=true∨fr=false)->Dc K H H' q s0 r v:=fun z hs=>by
       rcases z with z | ⟨zf,x,e,z⟩
       · exact .inl z
       · rcases hs with hs | hs
         · exact .inr ⟨hs,x,e,z⟩
         · rw [show fr=true from zf] at hs; cases hs
     have hs:iG s0=true∨fr=false:=by
       cases hfq:fr with
       | false=>exact .inr rfl
       | true=>
         cases s0 with
         | pot y20 y21 y22 y23=>
           exact .inl rfl
         | d y24=>
           cases y24 with
           | lst l=>
             exact absurd ⟨hfq,.inr rfl⟩ hfr
           | _=>first | (cases io; done) | (cases e3'; done) | (cases e2; done) | (cases e6; done) | contradiction
         | _=>first | (cases io; done) | (cases e3'; done) | (cases e2; done) | (cases e6; done) | contradiction
     rcases e3 with e3 | ⟨e3,rfl⟩
     · exact hl ⟨K,H,fun a=>a=p,fun a=>a=q,fr⟩ rfl rfl _ _ _ _ _ _ _ ρ' R0 e3 fun A' W' σ' v H' g r' f' z=>kq v H' (fin r' f').1 (fin r' f').2.1 (newm z hs)
     · exact hl ⟨K,H,fun a=>a=p,fun a=>a=q,fr⟩ rfl rfl _ _ _ _ _ _ _ ρ' R0 e3 fun A' W' σ' H' g r' f'=>kq .non H' (fin r' f').1 (fin r' f').2.1 (.inl (show RepP _ _ _ _ _ from du))
   · cases h2
noncomputable def gl (K:PySem.W.Frag):Sp:=fun vs H Q _=>∃ (a:Addr) (ns:List Int),vs=[.ref a]/\ScrAt K H a ns/\ns.length<=63/\∀ H',Q (.bl true) H'
theorem Bm {x qual:Str} {st:Stmt} {f:Addr} {fd:FuncData} {N:List Str} {k:Nat} {md:List Md} {mb:MS} (F:Fun K x qual st f fd) (S0:FnScope N ["script"] (ag st)) (hmd:aj md 0=.pl)
   (ok:∀ ns:List Int,ns.length<=63->mFn N.length 1 mb [.scr ns]=some (.d (.bl true)))
   (hb:∀ (cdv:Value) (A:Around) (outer:List Env) (s:Shared) (H:Hp) (E:XK),Room k (A.deeper (envOfC qual (ag st) s.heap.objs.size f cdv)) ->
     ∃ t,PSs (iq CX0 P w K mg base N qual (ag st) f cdv A outer s H E).nox (ax st) t/\∀ C:Cn,C.K=K->LS C md t mb) (hN:1<=N.length:=by decide) :
   FnOk P w K mg base CX0 (k+1) f fd ["script"] (gl K):=by
 refine (pO F S0 hN (fun i hi=>by have:i=0:=(by simpa using hi); rw [this]; exact hmd) hb).imp fun vs H Q E h=>?_
 obtain ⟨a,ns,rfl,h1,h2,h3⟩:=h
 refine ⟨[.scr ns],_,⟨_,[],rfl,⟨a,rfl,h1⟩,rfl⟩,ok ns h2,fun v H' _ n=>?_⟩
 have:RepP K H' (fun a=>H a=none) (.bl true) v:=n
 rw [RepP] at this
 subst this
 exact h3 H'
noncomputable def oz:Option S->Option (List Int)
 | some (.scr ns)=>some ns
 | _=>none
theorem gp {o:Option S} {ns:List Int} (h:oz o=some ns):o=some (.scr ns):=by
 cases o with
 | some y25=>
   cases y25 with
   | scr m=>
     cases h; rfl
   | _=>cases h
 | _=>cases h
noncomputable def Bn (c:Int):Int:=if c < 0 then -c else c
noncomputable def pP (ns:List Int) (i r m n:Int):Int × Int × Int:=
 if r=0 then
   if (ns.length:Int)<=i then
     ((((m+1000003 * (i+1)+76543) * 48271 % 2147483647 * ((m+1000003 * (i+1)+76543) * 48271 % 2147483647) % 2147483647+40692 * (i+1)) * 69621 % 2147483629 / 8) % n,i+1,r)
   else if Bn (ns.getD i.toNat 0) < 10 ^ 18 then (ns.getD i.toNat 0 % n,i+1,r)
   else (Bn (ns.getD i.toNat 0) % n,i+1,Bn (ns.getD i.toNat 0) / n)
 else (r % n,i,r / n)
noncomputable def Df:List S->Option (S × S)
 | [.pot ns i r m,.d (.int n)]=>if 0 < n/\n.natAbs.log2 < 9000/\0<=i then some (.d (.int (pP ns i r m n).1),.pot ns (pP ns i r m n).2.1 (pP ns i r m n).2.2 m) else none
 | _=>none
end
end Mir
namespace L2
open PySem PySem.Spec PyProof.Rows
section
variable {X:Cx} {K:PySem.W.Frag}
noncomputable def wW (z:Str) (n:Int):Str:=if n < 1 then Str.empty else if (n == 1 || z.length == 0)=true then z else ⟨(List.replicate n.toNat z.cps).foldl (·++·) #[]⟩
theorem ub (z:Str) (n:Nat) (acc:Array Nat):((List.replicate n z.cps).foldl (·++·) acc).size=acc.size+n * z.length:=by
 induction n generalizing acc with
 | zero=>simp
 | succ n ih=>rw [Z22,Z40,ih,Array.size_append,Nat.succ_mul]; show _=_+(_+z.cps.size); grind
noncomputable def zm:R2:=fun x y H Q=>∃ l k xs,x=.ref l/\y=.int k/\Rd H l (.lst xs)/\-(2 ^ 63)<=k/\k < 2 ^ 63/\xs.length * k.toNat<=sizeLine /\
 ∀ p,H p=none->Q (.ref p) (upd H p (.lst (List.replicate k.toNat xs).flatten))
theorem wX:OpR X (binaryOp .Mult) zm:=by
 intro pins s σ H x y v u Q I rx ry h
 obtain ⟨l,k,xs,rfl,rfl,hH,h1,h2,hz,q⟩:=h
 cases rx
 obtain ⟨t,rfl⟩:=ry
 obtain ⟨z,its,n,r,hl,e⟩:=I.lstR hH
 have hlen:its.toArray.size * k.toNat<=sizeLine:=by rw [Z4,<- hl]; exact hz
 have hcap:¬ its.toArray.size * k.toNat > (2 ^ 63 - 1) / 8:=by
   have:(sizeLine:Nat)<=(2 ^ 63 - 1) / 8:=by decide
   grind
 have hfit:¬ (!Builtin.List.listFitsIndex k)=true:=by
   rw [fitsIndex_both h1 h2]
   exact Z28
 have hlong:¬ Builtin.List.listTooLong (its.toArray.size * k.toNat)=true:=by
   rw [sP hlen]
   exact Z28
 have hnew:List.foldl (fun x1 x2=>x1++x2) #[] (List.replicate (if its.toArray.isEmpty=true then 0 else k.toNat) its.toArray)=(List.replicate k.toNat its).flatten.toArray:=by
   have f0:∀ m:Nat,List.foldl (fun x1 x2=>x1++x2) #[] (List.replicate m its.toArray)=(List.replicate m its).flatten.toArray:=fun m=>by
     have:=jG its m []
     rw [List.nil_append] at this
     exact this
   rw [f0]
   cases its with
   | nil=>simp
   | cons a r'=>rw [if_neg (by simp)]
 refine wpAny_binaryOp_repeat_ref (T:="list") (U:="int") (by decide) ⟨_,e,rfl⟩ (fun s'=>typeIs_int s' k t) noFill_list_mul F.fills_int_mul F.slot_int_rmul repeat_list F.slot_int_index.lookup
   (call_meets F.slot_int_rmul (typeIs_int s k t) F.entry_int_rmul (F.args_int_rmul_2 _ _) (int___rmul___int_list k t l its.toArray n)
     ⟨e,rfl,⟨_,e,rfl⟩,call_meets F.slot_list_mul ⟨_,e,rfl⟩ F.entry_list_mul (F.args_list_mul_2 _ _) (AutoListH.list___mul___list_int_3 l its.toArray n k t hfit hcap hlong) ⟨e,?_⟩⟩)
 rw [hnew]
 exact ⟨.ref _,_,I.lnew (t':=s.toks) (r.rep k.toNat) (by rw [v5,Nat.mul_comm]; exact hz),rfl,q _ I.fresh⟩
noncomputable def zo:R2:=fun x y H Q=>match x,y with
 | .int i,.int j=>CMul i j/\Q (.int (i * j)) H
 | .ref a,.int j=>zm (.ref a) (.int j) H Q
 | .str z,.int n=>(0<=n/\n<=1000/\z.length<=1000)/\Q (.str (wW z n)) H
 | _,_=>False
theorem wY:OpR X (binaryOp .Mult) zo:=by
 intro pins s σ H x y v u Q I rx ry h
 cases x with
 | int i=>
   cases y with
   | int j=>exact wg pins s σ H _ _ v u Q I rx ry h
   | _=>exact False.elim h
 | ref a=>
   cases y with
   | int j=>exact wX pins s σ H _ _ v u Q I rx ry h
   | _=>exact False.elim h
 | str z=>
   cases y with
   | int n=>
     obtain ⟨⟨h0,h1,h2⟩,q⟩:=h
     obtain ⟨t,rfl⟩:=rx; obtain ⟨t',rfl⟩:=ry
     have small:z.length * n.toNat<=1000000:=by
       have:n.toNat<=1000:=by lia
       calc z.length * n.toNat<=1000 * 1000:=Nat.mul_le_mul h2 this
         _=1000000:=by decide
     refine PySem.P.mul_str (by rw [decide_eq_false (by lia),decide_eq_false (by lia)]; rfl) (fun hn _=>?_) (fun _ _=>?_) ?_
     · have:(z.length:Int) * n<=2 ^ 63 - 1:=by
         have e:(z.length:Int) * n=((z.length * n.toNat:Nat):Int):=by rw [Int.natCast_mul,Int.toNat_of_nonneg h0]
         rw [e]; lia
       intro hgt
       have:(2 ^ 63 - 1) / n * n<=2 ^ 63 - 1:=Int.ediv_mul_le _ (by lia)
       have:(z.length:Int)<=(2 ^ 63 - 1) / n:=by
         rw [Int.le_ediv_iff_mul_le (by grind)]; assumption
       lia
     · show decide (z.length * n.toNat > sizeLine)=false
       rw [decide_eq_false]
       have:(1000000:Nat) < sizeLine:=by decide
       lia
     · unfold wW at q
       have big:(1000000:Nat) < sizeLine:=by decide
       split
       · rename_i hn
         rw [if_pos hn] at q
         exact ⟨by decide,.str _,H,I.tok _,⟨_,rfl⟩,q⟩
       · rename_i hn
         rw [if_neg hn] at q
         split
         · rename_i h3
           rw [if_pos h3] at q
           exact ⟨.str _,H,I,⟨_,rfl⟩,q⟩
         · rename_i h3
           rw [if_neg h3] at q
           refine ⟨?_,.str _,H,I.tok _,⟨_,rfl⟩,q⟩
           show Array.size _<=_
           rw [ub]
           have:z.length * n.toNat=n.toNat * z.length:=Nat.mul_comm _ _
           simp
           grind
   | _=>exact False.elim h
 | _=>exact False.elim h
noncomputable def Bo (K:PySem.W.Frag):V->Option Int->Option Int->Hp->VK->Prop:=fun x lo hi H Q=>CO x lo hi H Q∨CI K x lo hi H Q∨CC K x lo hi H Q
theorem uc (kt:KT K) (hK:X.K=K:=by rfl):SlR X (Bo K):=by
 subst hK
 exact sl_str.or (sl_list.or Ap)
noncomputable def zp (xs:List V) (H:Hp) (Q:VK):Prop:=∃ i j,xs=[.int i,.int j]/\Q (.int (if j < i then j else i)) H
noncomputable def zq (xs:List V) (H:Hp) (Q:VK):Prop:=∃ i j,xs=[.int i,.int j]/\Q (.int (if j > i then j else i)) H
theorem oA (hc:X.calm=true):CallR X (.builtin "min") zp:=qx hc
theorem oB (hc:X.calm=true):CallR X (.builtin "max") zq:=qw hc
noncomputable def Dg (K:PySem.W.Frag) (ta:TE):TT:=fun σ H Q=>ta σ H fun x H'=>∃ k,Ai K x H' k/\Q k H'
theorem Bp {a:Expr} {ta:TE} (kt:KT K) (ha:PE X a ta) (he:∀ whole,isTrue a X.env whole=(do let v <- whole; standAt a.pos; holding [v] (truthy v)):=by intro _; rfl) (hK:X.K=K:=by rfl):PT X a (Dg K ta):=by
 subst hK
 exact sE ha he
noncomputable def zr (K:PySem.W.Frag) (xs:List V) (H:Hp) (Q:VK):Prop:=kT K xs H Q∨zc xs H Q
theorem qY (kt:KT K) (hc:X.calm=true) (hK:X.K=K:=by rfl):CallR X (.type "tuple") (zr K):=by
 subst hK
 exact (my ⟨⟩).or (qN hc)
theorem ud {tg iter elt:Expr} {ifs:List Expr} {scope:Scope} {pos:Pos} {wi:TI} {g:TG} {tt:TT} {te:TE} (ts:List Str) (hc:X.calm=true) (S:CompScope X scope ts (cX X.N scope.names)) (hi:PI X tg iter wi)
   (hg:∀ C s2 H2 fp,PG (aE X scope ts (cX X.N scope.names) C s2 H2 fp) tg g) (ht:∀ C s2 H2 fp,PIf (aE X scope ts (cX X.N scope.names) C s2 H2 fp) ifs tt) (he:∀ C s2 H2 fp,PE (aE X scope ts (cX X.N scope.names) C s2 H2 fp) elt te)
   (hs:∀ x,foldedSetIterable iter X.env x=pure x:=by intro _; rfl) :
   PE X (.ListComp elt [⟨tg,iter,ifs,0⟩] scope pos) (iB ts.length (cX X.N scope.names) wi (lpW g tt (mo te))):=
 tD (ts:=ts) hc S hi (wd hc hg ht he) hs
end
end L2
namespace Mir
open PySem PySem.Spec PyProof.Rows L2
noncomputable def ue:D->D->Option D
 | .int i,.int j=>if CMul i j then some (.int (i * j)) else none
 | .lst l,.int k=>if -(2 ^ 63)<=k/\k < 2 ^ 63/\l.length * k.toNat<=sizeLine then some (.lst (List.replicate k.toNat l).flatten) else none
 | .str z,.int n=>if 0<=n/\n<=1000/\z.length<=1000 then some (.str (wW z n)) else none
 | _,_=>none
section
variable {K:PySem.W.Frag}
noncomputable def lg (l:List D) (lo hi:Option Int):List D:=(l.drop (HT.sIx l.length 0 lo)).take (HT.sIx l.length l.length hi - HT.sIx l.length 0 lo)
noncomputable def slD (d:D) (lo hi:Option Int):Option D:=match d with
 | .str z=>if z.length<=sizeLine then some (.str (Txt.slice z lo hi)) else none
 | .lst l=>some (.lst (lg l lo hi))
 | .tup l=>if HT.sIx l.length 0 lo=0/\HT.sIx l.length l.length hi=l.length then none else some (.tup (lg l lo hi))
 | _=>none
theorem RepPL.cut {H:Hp} {ok:Addr->Prop} {l:List D} {xs:List V} {lo hi:Option Int} (r:RepPL K H ok l xs):RepPL K H ok (lg l lo hi) (jj xs lo hi):=by
 unfold lg jj
 rw [r.length]
 exact (r.drop _).take _
theorem gq {H:Hp} {ok:Addr->Prop} {x:V} {d u:D} {lo hi:Option Int} {Q:VK} (h:RepT K H ok d x) (g:slD d lo hi=some u) (k:∀ v H',Same H H'->RepP K H' (fun a=>ok a∨H a=none) u v->Q v H'):Bo K x lo hi H Q:=by
 cases d with
 | str z=>
   replace g:(if z.length<=sizeLine then some (D.str (Txt.slice z lo hi)) else none)=some u:=g
   split at g
   · rename_i hz; cases g; exact .inl ⟨z,h.str_inv,hz,k _ H (Same.refl _) cC⟩
   · cases g
 | lst l=>
   cases g
   obtain ⟨p,xs,rfl,hp,rp⟩:=h.lst_inv
   refine .inr (.inl ⟨p,xs,rfl,.inl (.inl hp),fun t ht=>?_⟩)
   have s:=aA (o:=.lst (jj xs lo hi)) ht
   refine k _ _ s ?_
   rw [RepP]
   exact ⟨t,_,rfl,ar,.inr ht,(rp.cut.same s).mono fun _ _ o _=>.inl o⟩
 | tup l=>
   replace g:(if HT.sIx l.length 0 lo=0/\HT.sIx l.length l.length hi=l.length then none else some (D.tup (lg l lo hi)))=some u:=g
   split at g
   · cases g
   · rename_i hw
     cases g
     obtain ⟨p,xs,rfl,hp,rp⟩:=h.tup_inv
     refine .inr (.inr ⟨p,xs,rfl,hp,by rw [rp.length]; exact hw,fun t ht=>?_⟩)
     have s:=aA (o:=.tup (jj xs lo hi)) ht
     refine k _ _ s ?_
     rw [RepP]
     exact ⟨t,_,rfl,ar,(rp.cut.same s).mono fun _ _ o _=>.inl o⟩
 | _=>cases g
noncomputable def pQ:List D->Option D
 | [.int i,.int j]=>some (.int (if j < i then j else i))
 | _=>none
noncomputable def pR:List D->Option D
 | [.int i,.int j]=>some (.int (if j > i then j else i))
 | _=>none
theorem RepTL.two_inv {H:Hp} {ok:Addr->Prop} {d e:D} {vs:List V} (h:RepTL K H ok [d,e] vs):∃ v w,vs=[v,w]/\RepT K H ok d v/\RepT K H ok e w:=by
 obtain ⟨v,r,rfl,h1,h2⟩:=h
 obtain ⟨w,rfl,h3⟩:=h2.one_inv
 exact ⟨v,w,rfl,h1,h3⟩
theorem wZ:CbA K zp pQ:=by
 intro H ok vs ds u Q h g k
 cases ds with
 | cons y33 y34=>
   cases y33 with
   | int i=>
     cases y34 with
     | cons y35 y36=>
       cases y35 with
       | int j=>
         cases y36 with
         | nil=>
           cases g
           obtain ⟨v,w,rfl,h1,h2⟩:=h.two_inv
           obtain rfl:=h1.int_inv; obtain rfl:=h2.int_inv
           exact ⟨i,j,rfl,k _ H (Same.refl _) az⟩
         | _=>cases g
       | _=>cases g
     | _=>cases g
   | _=>cases g
 | _=>cases g
theorem w6:CbA K zq pR:=by
 intro H ok vs ds u Q h g k
 cases ds with
 | cons y37 y38=>
   cases y37 with
   | int i=>
     cases y38 with
     | cons y39 y40=>
       cases y39 with
       | int j=>
         cases y40 with
         | nil=>
           cases g
           obtain ⟨v,w,rfl,h1,h2⟩:=h.two_inv
           obtain rfl:=h1.int_inv; obtain rfl:=h2.int_inv
           exact ⟨i,j,rfl,k _ H (Same.refl _) az⟩
         | _=>cases g
       | _=>cases g
     | _=>cases g
   | _=>cases g
 | _=>cases g
theorem mP {H:Hp} {ok:Addr->Prop} (z:Str):RepPL K H ok (cP z) (dq z):=by
 unfold cP dq
 induction z.cps.toList with
 | nil=>exact .nil
 | cons c r ih=>exact .cons cC ih
noncomputable def EV:List D->Option D
 | [.lst l]=>some (.lst l)
 | [.tup l]=>some (.lst l)
 | [.str z]=>if z.length<=sizeLine then some (.lst (cP z)) else none
 | _=>none
noncomputable def uf:List D->Option D
 | [.lst l]=>some (.tup l)
 | [.tup l]=>some (.tup l)
 | [.str z]=>if z.length<=sizeLine then some (.tup (cP z)) else none
 | _=>none
theorem w9:CbA K (zr K) uf:=by
 intro H ok vs ds u Q h g k
 cases ds with
 | cons y43 y44=>
   cases y43 with
   | lst l=>
     cases y44 with
     | nil=>
       exact .inl (tY H ok vs _ u Q h g k)
     | _=>cases g
   | tup l=>
     cases y44 with
     | nil=>
       exact .inl (tY H ok vs _ u Q h g k)
     | _=>cases g
   | str z=>
     cases y44 with
     | nil=>
       replace g:(if z.length<=sizeLine then some (D.tup (cP z)) else none)=some u:=g
       split at g
       · rename_i hz
         cases g
         obtain ⟨v,rfl,h1⟩:=h.one_inv
         obtain rfl:=h1.str_inv
         refine .inr ⟨z,rfl,hz,fun t ht=>?_⟩
         have s:=aA (o:=.tup (dq z)) ht
         refine k _ _ s ?_
         rw [RepP]
         exact ⟨t,_,rfl,ar,mP z⟩
       · cases g
     | _=>cases g
   | _=>cases g
 | _=>cases g
noncomputable def inX (n:Nat) (neg:Bool) (d e:D):Option D:=match d,e with
 | .str y,.str z=>match y.cps.toList with
   | [c]=>if neg=true then some (.bl (!decide (c ∈ z.cps.toList))) else none
   | _=>none
 | d,e=>inD n neg d e
end
noncomputable abbrev MO:=En->Option (Option Int × En)
section
variable {C:Cn} {md:List Md}
noncomputable def LO (C:Cn) (md:List Md) (t:TO) (f:MO):Prop:=∀ (A W:Addr->Prop) (ρ:En) (σ:L2.St) (H:Hp) (Q:Option Int->Hp->Prop) (b:Option Int) (ρ':En),R C md A W ρ σ H->f ρ=some (b,ρ') ->
 (∀ H',Ext W H H'->R C md A W ρ' σ H'->Q b H')->t σ H Q
noncomputable def Bq:MO:=fun ρ=>some (none,ρ)
noncomputable def asI:D->Option Int
 | .int i=>some i
 | _=>none
theorem fG {d:D} {i:Int} (h:asI d=some i):d=.int i:=by cases d <;> first | (cases h; done) | (cases h; rfl)
noncomputable def iK (f:ME):MO:=fun ρ=>(f ρ).bind fun x=>(res x.2 x.1).bind fun d=>(asI d).bind fun i=>some (some i,x.2)
theorem Dh:LO C md pB Bq:=by
 intro A W ρ σ H Q b ρ' r e k
 cases e
 exact k H (Ext.refl _ _) r
theorem xa {t:TE} {f:ME} (h:LE C md t f):LO C md (yU t) (iK f):=by
 intro A W ρ σ H Q b ρ' r e k
 unfold iK at e
 simp -iota only [Z0] at e
 obtain ⟨⟨o,ρ1⟩,e1,d,e2,i,e3,e4⟩:=e
 cases e4
 cases fG e3
 exact h A W ρ σ H _ o _ r e1 fun v H1 x1 r1 p1=>⟨i,(p1.get r1 e2).int_inv,k H1 x1 r1⟩
noncomputable def fH:List D->Option (List Str)
 | []=>some []
 | .str i::r=>(fH r).map (i::·)
 | _=>none
theorem jR:∀ {l:List D} {ns:List Str},fH l=some ns->l=ns.map D.str
 | [],ns,h=>by cases h; rfl
 | .str i::r,ns,h=>by
   replace h:(fH r).map (i::·)=some ns:=h
   cases e:fH r with
   | none=>rw [e] at h; cases h
   | some m=>rw [e] at h; cases h; simp -iota [jR e]
theorem ug (ns:List Str):fH (ns.map D.str)=some ns:=by
 induction ns with
 | nil=>rfl
 | cons a r ih=>rw [Z6,fH,ih]; rfl
theorem iL {K:PySem.W.Frag} {H:Hp} {ok:Addr->Prop}:∀ {ns:List Str} {xs:List V},RepPL K H ok (ns.map D.str) xs->xs=ns.map V.str
 | [],xs,h=>h.nil_inv
 | i::r,xs,h=>by
   obtain ⟨x,t,rfl,h1,h2⟩:=h.cons_inv
   rw [RepP] at h1
   rw [h1,iL h2]; rfl
noncomputable def uh (z:Str):List D->Option D
 | [.lst l]=>(fH l).bind fun ys=>if (ys.map (·.length)).sum+ys.length * z.length<=16777216 then some (.str (Txt.join z ys)) else none
 | _=>none
noncomputable def mQ (z:Str) (f:MA):ME:=fun ρ=>(f ρ).bind fun x=>(eT x.2 x.1).bind fun ds=>(uh z ds).bind fun u=>some (.val u,x.2)
theorem xb {z:Str} {t:TA} {f:MA} (h:LA C md t f):LE C md (tBM C.K "str" (zb C.K) (tC (.str z)) t) (mQ z f):=by
 intro A W ρ σ H Q o ρ' r e k
 unfold mQ at e
 simp -iota only [Z0] at e
 obtain ⟨⟨os,ρ1⟩,e1,ds,e2,u,e3,e4⟩:=e
 cases e4
 refine ⟨rfl,h A W ρ σ H _ os _ r e1 fun vs H1 x1 r1 p1=>?_⟩
 cases ds with
 | cons y45 y46=>
   cases y45 with
   | lst l=>
     cases y46 with
     | nil=>
       replace e3:((fH l).bind fun ys=>if (ys.map (·.length)).sum+ys.length * z.length<=16777216 then some (D.str (Txt.join z ys)) else none)=some u:=e3
       simp -iota only [Z0] at e3
       obtain ⟨ys,e5,e6⟩:=e3
       split at e6
       · rename_i hz
         cases e6
         obtain ⟨v,rfl,h1⟩:=(p1.get r1 e2).one_inv
         obtain ⟨p,xs,rfl,hp,rp⟩:=h1.lst_inv
         rw [jR e5] at rp
         refine ⟨z,p,ys,rfl,rfl,.inl (.inl ?_),hz,k _ H1 x1 r1 (show RepP _ _ _ _ _ from cC)⟩
         rw [<- iL rp]
         exact hp
       · cases e6
     | _=>cases e3
   | _=>cases e3
 | _=>cases e3
noncomputable def Br:D->Option Bool
 | .non=>some false
 | .bl b=>some b
 | .int i=>some (i != 0)
 | .str y=>if y.length<=sizeLine then some ((y.length:Int) != 0) else none
 | .tup l=>some (!l.isEmpty)
 | .lst l=>some (!l.isEmpty)
noncomputable def lh (f:ME):MT:=fun ρ=>(f ρ).bind fun x=>(res x.2 x.1).bind fun d=>(Br d).bind fun b=>some (b,x.2)
theorem gM {α β:Type} {l:List α} {m:List β} (h:l.length=m.length):l.isEmpty=m.isEmpty:=by
 cases l <;> cases m <;> simp -iota at h ⊢
theorem Bs {t:TE} {f:ME} (h:LE C md t f):LT C md (Dg C.K t) (lh f):=by
 intro A W ρ σ H Q b ρ' r e k
 unfold lh at e
 simp -iota only [Z0] at e
 obtain ⟨⟨o,ρ1⟩,e1,d,e2,b',e3,e4⟩:=e
 cases e4
 refine h A W ρ σ H _ o _ r e1 fun v H1 x1 r1 p1=>⟨b,?_,k H1 x1 r1⟩
 have p:=p1.get r1 e2
 cases d with
 | non=>
   cases e3; obtain rfl:=p.non_inv; rfl
 | bl c=>
   cases e3; obtain rfl:=p.bl_inv; rfl
 | int c=>
   cases e3; obtain rfl:=p.int_inv; rfl
 | str c=>
   obtain rfl:=p.str_inv
   replace e3:(if c.length<=sizeLine then some ((c.length:Int) != 0) else none)=some b:=e3
   split at e3
   · rename_i hz; cases e3; exact ⟨hz,rfl⟩
   · cases e3
 | tup l=>
   cases e3; obtain ⟨q,xs,rfl,hp,rp⟩:=p.tup_inv; exact .inr (.inl ⟨xs,hp,by rw [gM rp.length]⟩)
 | lst l=>
   cases e3; obtain ⟨q,xs,rfl,hp,rp⟩:=p.lst_inv; exact .inl ⟨xs,.inl (.inl hp),by rw [gM rp.length]⟩
theorem xc {ta:TE} {fa:ME} (ha:LE C md ta fa):LT C md (yT ta) (mB fa):=C6 ha
noncomputable def jS (i:Nat):ME:=fun ρ=>(oz (look ρ i)).bind fun ns=>some (.val (.int ns.length),ρ)
theorem xf {i:Nat} (hm:aj md i=.pl):LE C md (tCB (qH C.K) (b9 (aU i) eK)) (jS i):=by
 intro A W ρ σ H Q o ρ' r e k
 unfold jS at e
 simp -iota only [Z0] at e
 obtain ⟨ns,e1,e2⟩:=e
 cases e2
 obtain ⟨v,ev,c⟩:=r.slot i _ (gp e1)
 rw [hm] at c
 obtain ⟨a,rfl,c⟩:=c
 refine ⟨_,ev,_,ns.length,rfl,.inl ⟨_,c.sq,by simp⟩,k _ H (Ext.refl _ _) r (show RepP _ _ _ _ _ from az)⟩
noncomputable def ui (i:Nat) (f:ME):ME:=fun ρ=>(oz (look ρ i)).bind fun _=>(f ρ).bind fun x=>(res x.2 x.1).bind fun d=>(asI d).bind fun j=>(oz (look x.2 i)).bind fun ns=>(atI ns j).bind fun n=>some (.val (.int n),x.2)
theorem uj {ns:List Int} {j n:Int} (h:atI ns j=some n):atI (ns.map V.int) j=some (V.int n):=by
 unfold atI at h ⊢
 rw [Z2]
 cases e:ixN ns.length j with
 | none=>rw [e] at h; cases h
 | some k=>
   rw [e] at h
   have h:ns[k]?=some n:=h
   show (ns.map V.int)[k]?=_
   rw [Z21,h]; rfl
noncomputable def xg:Option S->Option S
 | some (.d x)=>some (.d x)
 | some (.scr ns)=>some (.scr ns)
 | some (.dc kvs)=>some (.dc kvs)
 | some (.dn kvs)=>some (.dn kvs)
 | _=>none
noncomputable def dA (ρ:En):List Op->Option (List S)
 | []=>some []
 | o::os=>(xg (C1 ρ o)).bind fun d=>(dA ρ os).bind fun ds=>some (d::ds)
theorem OpsAt.argsA {A W:Addr->Prop} {ρ:En} {σ:L2.St} {H:Hp} (r:R C md A W ρ σ H):∀ {os:List Op} {vs:List V} {ss:List S},OpsAt C A σ H os vs->dA ρ os=some ss->SL C.K H (fun _=>True) ss vs
 | [],vs,ss,h,e=>by cases e; exact h
 | o::os,vs,ss,h,e=>by
   obtain ⟨v,t,rfl,h1,h2⟩:=h
   unfold dA at e
   simp -iota only [Z0] at e
   obtain ⟨s,e1,ss',e2,e3⟩:=e
   cases e3
   refine ⟨v,t,rfl,?_,OpsAt.argsA r h2 e2⟩
   match o,h1,e1 with
   | .val d,h1,e1=>cases e1; exact (RepP.top h1).any
   | .var i,h1,e1=>
     replace e1:xg (look ρ i)=some s:=e1
     cases el:look ρ i with
     | none=>rw [el] at e1; cases e1
     | some s'=>
       rw [el] at e1
       obtain ⟨v',ev',c⟩:=r.slot i _ el
       rw [show σ[i]?=some (some v) from h1] at ev'; cases ev'
       match s',e1,c with
       | .d x,e1,c=>cases e1; exact c.top.any
       | .scr ns,e1,c=>
         cases e1
         cases em:aj md i with
         | pl=>rw [em] at c; exact c
         | ow=>rw [em] at c; exact c.elim
         | lk=>rw [em] at c; exact c.elim
         | io=>rw [em] at c; exact c.elim
       | .dn kvs,e1,c=>
         cases e1
         cases em:aj md i with
         | pl=>
           rw [em] at c
           obtain ⟨a,ws,z,c1,c2,c3⟩:=c
           exact ⟨a,ws,z,c1,trivial,c3.mono fun _ _ _ _=>trivial⟩
         | ow=>rw [em] at c; exact c.elim
         | lk=>rw [em] at c; exact c.elim
         | io=>rw [em] at c; exact c.elim
       | .dc kvs,e1,c=>
         cases e1
         have cc:∀ {ok okq:Addr->Prop},Cell C.K A H ok okq (.dc kvs) v->tT C.K H (fun _=>True) (.dc kvs) v:=fun c=>by
           obtain ⟨a,ws,z,c1,c2,c3,c4,c5⟩:=c
           exact ⟨a,ws,z,c1,trivial,c4,RepPL.mono c5 fun _ _ _ _=>trivial⟩
         cases em:aj md i with
         | pl=>
           rw [em] at c
           obtain ⟨a,ws,z,c1,c2,c3,c4⟩:=c
           exact ⟨a,ws,z,c1,trivial,c3,RepPL.mono c4 fun _ _ _ _=>trivial⟩
         | ow=>rw [em] at c; exact cc (ok:=fun a=>W a/\C.H0 a=none) (okq:=fun _=>True) c
         | lk=>rw [em] at c; exact cc (ok:=fun a=>¬ W a) (okq:=fun _=>True) c
         | io=>rw [em] at c; exact cc (ok:=fun a=>W a/\C.M a) (okq:=C.Q) c
noncomputable def aQ (m:List S->Option S) (f:MA):ME:=fun ρ=>(f ρ).bind fun x=>(dA x.2 x.1).bind fun ss=>(m ss).bind fun r=>(unD (some r)).bind fun d=>some (.val d,x.2)
noncomputable def eg (m:List S->Option S) (f:MA):MN:=fun ρ=>(f ρ).bind fun x=>(dA x.2 x.1).bind fun ss=>(m ss).bind fun r=>(ju r).bind fun s=>some (s,x.2)
theorem uk {t:TA} {f:MA} {m:List S->Option S} {E:XK} (h:LA C md t f):LE C md (gJ (spP C.K m) [] E t) (aQ m f):=by
 intro A W ρ σ H Q o ρ' r e k
 unfold aQ at e
 simp -iota only [Z0] at e
 obtain ⟨⟨os,ρ1⟩,e1,ss,e2,s,e3,d,e4,e5⟩:=e
 cases e5
 cases dt e4
 refine h A W ρ σ H _ os _ r e1 fun vs H1 x1 r1 p1=>?_
 rw [Z35]
 refine ⟨ss,_,p1.argsA r1 e2,e3,fun v H2 s2 n=>?_⟩
 exact k v H2 (x1.trans (Same.ext s2)) (r1.same s2) (show RepP _ _ _ _ _ from n.repP.mono fun a _ o _=>r1.fresh o)
theorem ul {t:TA} {f:MA} {m:List S->Option S} {E:XK} (h:LA C md t f):LN C md (gJ (spP C.K m) [] E t) (eg m f):=by
 intro A W ρ σ H Q s ρ' r e k
 unfold eg at e
 simp -iota only [Z0] at e
 obtain ⟨⟨os,ρ1⟩,e1,ss,e2,s0,e3,s',e4,e5⟩:=e
 cases e5
 obtain ⟨l,rfl,rfl,hi⟩:=gj e4
 refine h A W ρ σ H _ os _ r e1 fun vs H1 x1 r1 p1=>?_
 rw [Z35]
 refine ⟨ss,_,p1.argsA r1 e2,e3,fun v H2 s2 n=>?_⟩
 obtain ⟨a,xs,rfl,h1,h2,h3⟩:=n
 exact k a H1 H2 x1 r1 h1 s2 ⟨xs,h2,RepPL.ofImm hi h3.repL⟩
noncomputable def oC (g:D->D->Option D) (fa fb:ME):MN:=fun ρ=>
 (fa ρ).bind fun x=>(fb x.2).bind fun y=>(res y.2 x.1).bind fun d=>(res y.2 y.1).bind fun e=>(g d e).bind fun u=>match u with
   | .lst l=>some (.d (.lst l),y.2)
   | _=>none
noncomputable def OpN (K:PySem.W.Frag) (r:R2) (g:D->D->Option D):Prop:=∀ (H:Hp) (ok:Addr->Prop) (x y:V) (d e:D) (l:List D) (Q:VK),RepT K H ok d x->RepT K H ok e y->g d e=some (.lst l) ->
 (∀ p xs,H p=none->RepPL K H ok l xs->Q (.ref p) (upd H p (.lst xs)))->r x y H Q
theorem zt {r:R2} {g:D->D->Option D} {ta tb:TE} {fa fb:ME} (h:OpN C.K r g) (ha:LE C md ta fa) (hb:LE C md tb fb):LN C md (tOp r ta tb) (oC g fa fb):=by
 intro A W ρ σ H Q s ρ' r0 e k
 unfold oC at e
 simp -iota only [Z0] at e
 obtain ⟨⟨o1,ρ1⟩,e1,⟨o2,ρ2⟩,e2,d,e3,c,e4,u,e5,e6⟩:=e
 cases u with
 | lst l=>
   cases e6
   refine ha A W ρ σ H _ o1 ρ1 r0 e1 fun v1 H1 x1 r1 p1=>?_
   refine hb A W ρ1 σ H1 _ o2 _ r1 e2 fun v2 H2 x2 r2 p2=>?_
   refine h H2 _ v1 v2 d c l Q ((p1.stay r1 x2).get r2 e3) (p2.get r2 e4) e5 fun p xs hp q=>?_
   have s:=aA (o:=.lst xs) hp
   exact k p H2 _ (x1.trans x2) r2 hp s ⟨xs,ar,(q.apart hp).same s⟩
 | _=>cases e6
theorem Bt {K:PySem.W.Frag}:OpN K zo ue:=by
 intro H ok x y d e u Q h1 h2 g k
 cases d with
 | lst l=>
   cases e with
   | int j=>
     obtain ⟨p,xs,rfl,hp,rp⟩:=h1.lst_inv; obtain rfl:=h2.int_inv
     replace g:(if -(2 ^ 63)<=j/\j < 2 ^ 63/\l.length * j.toNat<=sizeLine then some (D.lst (List.replicate j.toNat l).flatten) else none)=some (.lst u):=g
     split at g
     · rename_i hz
       cases g
       exact ⟨p,j,xs,rfl,rfl,.inl hp,hz.1,hz.2.1,by rw [rp.length]; exact hz.2.2,fun t ht=>k t _ ht (rp.rep j.toNat)⟩
     · cases g
   | _=>cases g
 | int i=>
   cases e with
   | int j=>
     replace g:(if CMul i j then some (D.int (i * j)) else none)=some (.lst u):=g
     split at g <;> cases g
   | _=>cases g
 | str z=>
   cases e with
   | int n=>
     replace g:(if 0<=n/\n<=1000/\z.length<=1000 then some (D.str (wW z n)) else none)=some (.lst u):=g
     split at g <;> cases g
   | _=>cases g
 | _=>cases g
noncomputable def qZ (md:List Md) (i j:Nat) (f:MA):MS:=fun ρ=>(f ρ).bind fun x=>(stos md x.2 x.1).bind fun ds=>match ds with
 | [d,e]=>some (.nx,(x.2.set i (some (.d d))).set j (some (.d e)))
 | _=>none
theorem Bu {i j:Nat} {t:TA} {f:MA} (hi:aj md i=.pl) (hj:aj md j=.pl) (h:LA C md t f):LS C md (Cr i j t) (qZ md i j f):=by
 intro A W ρ σ H D fl ρ' r e k
 unfold qZ at e
 simp -iota only [Z0] at e
 obtain ⟨⟨os,ρ1⟩,e1,ds,e2,e3⟩:=e
 cases ds with
 | cons d y47=>
   cases y47 with
   | cons e y48=>
     cases y48 with
     | nil=>
       cases e3
       refine h A W ρ σ H _ os _ r e1 fun vs H1 x1 r1 p1=>?_
       obtain ⟨v,z,rfl,pv,pz⟩:=(p1.stos r1 e2).cons_inv
       obtain ⟨w,y,rfl,pw,py⟩:=pz.cons_inv
       obtain rfl:=py.nil_inv
       refine ⟨v,w,rfl,k A W _ H1 (Gr.ofExt x1) ((r1.setP hi pv).setP hj pw) fun l hl=>?_⟩
       rw [aC (fun z=>by rw [<- z] at hl; rcases hl with hl | hl <;> (rw [hj] at hl; cases hl)),aC (fun z=>by rw [<- z] at hl; rcases hl with hl | hl <;> (rw [hi] at hl; cases hl))]
     | _=>cases e3
   | _=>cases e3
 | _=>cases e3
noncomputable def um (i:Nat) (g:Int->Int->Int) (f:ME):MS:=fun ρ=>(look ρ i).bind fun s=>(unD (some s)).bind fun d=>(asI d).bind fun a=>(f ρ).bind fun x=>(res x.2 x.1).bind fun e=>(asI e).bind fun b=>some (.nx,x.2.set i (some (.d (.int (g a b)))))
theorem Bv {i:Nat} {g:Int->Int->Int} {t:TE} {f:ME} (hi:aj md i=.pl) (h:LE C md t f):LS C md (Cs i t (ipI g)) (um i g f):=by
 intro A W ρ σ H D fl ρ' r e k
 unfold um at e
 simp -iota only [Z0] at e
 obtain ⟨s,e0,d,e1,a,e2,⟨o,ρ1⟩,e3,d',e4,b,e5,e6⟩:=e
 cases e6
 cases dt e1
 cases fG e2
 cases fG e5
 obtain ⟨v,ev,c⟩:=r.slot i _ e0
 rw [hi] at c
 have c:RepP C.K H (fun a=>¬ A a) (.int a) v:=c
 rw [RepP] at c
 subst c
 refine ⟨_,ev,h A W ρ σ H _ o _ r e3 fun v H1 x1 r1 p1=>⟨a,b,rfl,(p1.get r1 e4).int_inv,k A W _ H1 (Gr.ofExt x1) (r1.setP hi az) fun l hl=>?_⟩⟩
 exact aC (fun z=>by rw [<- z] at hl; rcases hl with hl | hl <;> (rw [hi] at hl; cases hl))
end
end Mir
namespace L2
open PySem PySem.Spec PyProof.Rows
section
variable {X:Cx} {iter elt:Expr} {ifs:List Expr} {scope:Scope} {pos p1 p2 tp:Pos} {x1 x2:Str} {tk:Nat} {tt:TT} {te:TE} {wi:TI} {g:TG}
theorem q9 (hc:X.calm=true) (S:CompScope X scope [x1,x2] (cX X.N scope.names)) (hi:PI X (.Tuple [.Name x1 p1,.Name x2 p2] tk tp) iter wi)
   (hg:∀ C s2 H2 fp,PG (aE X scope [x1,x2] (cX X.N scope.names) C s2 H2 fp) (.Tuple [.Name x1 p1,.Name x2 p2] tk tp) g) (ht:∀ C s2 H2 fp,PIf (aE X scope [x1,x2] (cX X.N scope.names) C s2 H2 fp) ifs tt) (he:∀ C s2 H2 fp,PE (aE X scope [x1,x2] (cX X.N scope.names) C s2 H2 fp) elt te)
   (hs:∀ x,foldedSetIterable iter X.env x=pure x:=by intro _; rfl) :
   PE X (.ListComp elt [⟨.Tuple [.Name x1 p1,.Name x2 p2] tk tp,iter,ifs,0⟩] scope pos) (iB 2 (cX X.N scope.names) wi (lpW g tt (mo te))):=
 ud [x1,x2] hc S hi hg ht he hs
end
section
variable {X:Cx} {K:PySem.W.Frag} {o e:Expr} {es:List Expr} {to:TE} {t:TA} {name:Str} {apos cpos:Pos} {T id:String} {r:V->List V->Hp->VK->Prop}
theorem pS (kt:KT K) (pa:PlainAttrs T) (slot:Slot T name id) (hty:typeOf (.builtin id)=pure (.type "method_descriptor")) (hm:MtR X id r) (ho:PE X o to)
   (hbase:attributeBase o name X.env (eval o X.env)=eval o X.env:=by rfl) (hline:(apos.endLine == cpos.line)=true:=by rfl) (hK:X.K=K:=by rfl):PE X (.Call (.Attribute o name apos) [] [] cpos) (Ar K T r to):=by
 subst hK
 exact As pa slot hty hm ho hbase hline
theorem oD (kt:KT K) (pa:PlainAttrs T) (slot:Slot T name id) (hty:typeOf (.builtin id)=pure (.type "method_descriptor")) (hm:MtR X id r) (ho:PE X o to) (ha:PA X (e::es) t)
   (hbase:attributeBase o name X.env (eval o X.env)=eval o X.env:=by rfl)
   (hfew:((backTo cpos (starEach (e::es) X.env)).all (fun x=>!x.1) && (backToKw cpos (keywordEach [] X.env)).all (fun x=>x.1.isSome)
     && decide ((e::es).length+([]:List Keyword).length+(if ([]:List Keyword).isEmpty then 0 else 1) < 30))=true:=by rfl)
   (hline:(apos.endLine == cpos.line)=true:=by rfl) (hs:starEach (e::es) X.env=(false,eval e X.env)::starEach es X.env:=by rfl) (hplain:(backTo cpos (starEach es X.env)).any (·.1)=false:=by rfl) (hK:X.K=K:=by rfl) :
   PE X (.Call (.Attribute o name apos) (e::es) [] cpos) (tBM K T r to t):=by
 subst hK
 exact sO pa slot hty hm ho ha hbase hfew hline hs hplain
end
end L2
namespace Mir
open PySem PySem.Spec PyProof.Rows L2
section
variable {C:Cn} {md:List Md} {nt:Nat} {ix ix' kp:List Nat}
theorem uo {lj:Option Nat} {wi:TI} {g:TG} {tt:TT} {tb:TB} {fi:MI} {fg:MG} {ft:MT} {fb:MB} (he:ix'=ix) (hx:ix.Nodup) (hk:∀ j ∈ kp,j ∈ ix/\(aj md j=.ow∨aj md j=.io)) (hl:∀ j,lj=some j->j ∉ kp)
   (hi:LI C md lj wi fi) (hg:LG C (dy md nt ix kp) (fun j=>nt<=j) g fg) (ht:LT C (dy md nt ix kp) tt ft) (hb:LB C (dy md nt ix kp) nt tb fb):LE C md (iB nt ix' wi (lpW g tt tb)) (jQ nt ix kp fi (lpM fg ft fb)):=by
 subst he
 exact wT hx hk hl hi hg ht hb
end
end Mir
namespace Mir
open PySem L2
noncomputable abbrev ltD:D->D->Option D:=AZ (fun i j=>decide (i < j)) ltC
noncomputable abbrev gtD:D->D->Option D:=AZ (fun i j=>decide (j < i)) (fun x y=>ltC y x)
noncomputable def iM:Nat->List Md->Bool
 | 0,_=>true
 | _+1,[]=>true
 | n+1,m::r=>(match m with | .pl=>true | _=>false) && iM n r
theorem iN:∀ {n:Nat} {md:List Md},iM n md=true->∀ i,i < n->aj md i=.pl
 | 0,md,h,i,hi=>absurd hi (Nat.not_lt_zero _)
 | n+1,[],h,i,hi=>rfl
 | n+1,m::r,h,0,hi=>by
   simp only [iM,Z25] at h
   cases m <;> simp at h <;> rfl
 | n+1,m::r,h,i+1,hi=>by
   simp only [iM,Z25] at h
   exact iN (n:=n) (md:=r) h.2 i (by omega)
theorem up {n:Nat} {m:Md} {md:List Md} (h:iM n md=true):∀ i,i+1 < n+1->aj (m::md) (i+1)=.pl:=fun i hi=>iN h i (by omega)
end Mir
namespace Mir
open PySem PySem.Spec PyProof.Rows L2
section
variable {P:Program} {w:World} {K:PySem.W.Frag} {mg:Str->Option Value} {base:Heap} {x qual:Str} {st:Stmt} {f:Addr} {fd:FuncData} {N ps:List Str} {k n np:Nat} {md:List Md} {mb:MS}
noncomputable abbrev Di (P:Program) (w:World) (K:PySem.W.Frag) (mg:Str->Option Value) (base:Heap) (qual:Str) (st:Stmt) (f:Addr) (N:List Str) (k:Nat) (md:List Md) (mb:MS):Prop:=
 ∀ (cdv:Value) (A:Around) (outer:List Env) (s:Shared) (H:Hp) (E:XK),Room k (A.deeper (envOfC qual (ag st) s.heap.objs.size f cdv)) ->
     ∃ t,PSs (iq CX0 P w K mg base N qual (ag st) f cdv A outer s H E).nox (ax st) t/\∀ C:Cn,C.K=K->LS C md t mb
theorem aL {m:List S->Option S} (F:Fun K x qual st f fd) (S0:FnScope N ps (ag st)) (hn:N.length=n) (hp:ps.length=np) (hm:m=mFn n np mb) (hle:Nat.ble np n=true) (hmd:iM np md=true)
   (hb:Di P w K mg base qual st f N k md mb):FnOk P w K mg base CX0 (k+1) f fd ps (spP K m):=by
 subst hn hp hm
 exact pO F S0 (Z14 hle) (iN hmd) hb
noncomputable abbrev Dj (fr:Bool) (P:Program) (w:World) (K:PySem.W.Frag) (mg:Str->Option Value) (base:Heap) (qual:Str) (st:Stmt) (f:Addr) (N:List Str) (k:Nat) (md:List Md) (mb:MS):Prop:=
 ∀ (cdv:Value) (A:Around) (outer:List Env) (s:Shared) (H:Hp) (E:XK),Room k (A.deeper (envOfC qual (ag st) s.heap.objs.size f cdv)) ->
     ∃ t,PSs (iq CX0 P w K mg base N qual (ag st) f cdv A outer s H E).nox (ax st) t/\∀ C:Cn,C.K=K->C.free=fr->LS C md t mb
theorem oE {m:List S->Option (S × S)} {md':List Md} (fr:Bool) (F:Fun K x qual st f fd) (S0:FnScope N ps (ag st)) (hn:N.length=n) (hp:ps.length=np+1) (hm:m=ld fr n (np+1) mb) (hle:Nat.ble (np+1) n=true) (he:md=.io::md') (hmd:iM np md'=true)
   (hb:Dj fr P w K mg base qual st f N k md mb):FnOk P w K mg base CX0 (k+1) f fd ps (spM K m):=by
 subst hn hm he
 rw [<- hp] at hle ⊢
 exact De fr F S0 (Z14 hle) rfl (fun i hi=>up hmd i (by omega)) hb
theorem xh {m:List S->Option S} (F:Fun K x qual st f fd) (S0:FnScope N ["script"] (ag st)) (hn:N.length=n) (hm:m=mFn n 1 mb) (hle:Nat.ble 1 n=true) (hmd:aj md 0=.pl)
   (ok:∀ ns:List Int,ns.length<=63->m [.scr ns]=some (.d (.bl true))) (hb:Di P w K mg base qual st f N k md mb):FnOk P w K mg base CX0 (k+1) f fd ["script"] (gl K):=by
 subst hn hm
 exact Bm F S0 hmd ok hb (Z14 hle)
end
end Mir
namespace Srt
open PySem PySem.W PyProof.Rows
noncomputable def run {α:Type} (c:Nat->Nat->Bool):KasT α->α
 | .ret a=>a
 | .ask i j k=>run c (k (c i j))
theorem cG {α β:Type} (c:Nat->Nat->Bool) (f:α->KasT β):∀ t:KasT α,run c (t.bind f)=run c (f (run c t))
 | .ret _=>rfl
 | .ask i j k=>cG c f (k (c i j))
theorem ll {α:Type} (c:Nat->Nat->Bool) (i j:Nat) (k:Bool->KasT α):run c (.ask i j k)=run c (k (c i j)):=rfl
section
variable (O:KeyOrd) (key:Nat->O.α)
noncomputable abbrev cm:Nat->Nat->Bool:=fun i j=>O.blt (key i) (key j)
noncomputable def at_ (p:Array Nat) (i:Nat):O.α:=key (p.getD i 0)
noncomputable def Up (p:Array Nat) (k:Nat):Prop:=∀ i j,i<=j->j < k->O.kle (at_ O key p i) (at_ O key p j)
noncomputable def Dn (p:Array Nat) (k:Nat):Prop:=∀ i j,i<=j->j < k->O.kle (at_ O key p j) (at_ O key p i)
variable {O key}
theorem dB {p q:Array Nat} {i j:Nat} (h:p[i]?=q[j]?):at_ O key p i=at_ O key q j:=by
 unfold at_
 rw [Array.getD_eq_getD_getElem?,Array.getD_eq_getD_getElem?,h]
theorem rb {p:Array Nat} {src d:Nat} (hs:src < p.size) (hd:d<=src) (k:Nat) :
   at_ O key (bubble p src d) k=if k=src - d then at_ O key p src else if src - d < k/\k<=src then at_ O key p (k - 1) else at_ O key p k:=by
 have e:=getElem?_bubble hs d hd k
 split
 · rw [if_pos (by assumption)] at e; exact dB e
 · rw [if_neg (by assumption)] at e
   split
   · rw [if_pos (by assumption)] at e; exact dB e
   · rw [if_neg (by assumption)] at e; exact dB e
theorem gv {p:Array Nat} {i j:Nat} (hj:j<=p.size) (k:Nat) :
   at_ O key (kas_rev p i j) k=if i<=k/\k < j then at_ O key p (i+j - 1 - k) else at_ O key p k:=by
 have e:=getElem?_mirror_all (i:=i) hj k
 unfold kas_rev
 split
 · rw [if_pos (by assumption)] at e; exact dB e
 · rw [if_neg (by assumption)] at e; exact dB e
theorem Up.rev {p:Array Nat} {n:Nat} (hn:n<=p.size) (h:Dn O key p n):Up O key (kas_rev p 0 n) n:=by
 intro i j hij hj
 rw [gv hn,gv hn,if_pos ⟨by grind,by exact Nat.lt_of_le_of_lt hij hj⟩,if_pos ⟨by grind,by exact hj⟩]
 exact h _ _ (by grind) (by grind)
theorem Dn.revEq {p:Array Nat} {n q m:Nat} (hn:n<=p.size) (hm:m<=n) (h:Dn O key p n) (he:∀ k,m<=k->k < n->at_ O key p k=at_ O key p (n - 1)):∀ k,k < n->at_ O key (kas_rev p m n) k=at_ O key p k:=by
 intro k hk
 rw [gv hn]
 split
 · rw [he _ (by grind) (by grind),he k (by lia) (by exact hk)]
 · rfl
theorem oF (p:Array Nat):∀ (f n:Nat),1<=n->Up O key p n->n<=run (cm O key) (kas_asc p f n)/\run (cm O key) (kas_asc p f n)<=n+f/\Up O key p (run (cm O key) (kas_asc p f n))
 | 0,n,_,h=>⟨Z10 _,Z10 _,h⟩
 | f+1,n,h1,h=>by
   show n<=run (cm O key) (if _ then _ else _)/\run (cm O key) (if _ then _ else _)<=_/\Up O key p (run (cm O key) (if _ then _ else _))
   by_cases hc:cm O key (p.getD n 0) (p.getD (n - 1) 0)=true
   · rw [if_pos hc]; exact ⟨Z10 _,by show n<=_; grind,h⟩
   · rw [if_neg hc]
     have hle:O.kle (at_ O key p (n - 1)) (at_ O key p n):=by
       unfold KeyOrd.kle; simpa [cm,at_] using hc
     have h':Up O key p (n+1):=by
       intro i j hij hj
       by_cases hjn:j=n
       · subst hjn
         by_cases hin:i=j
         · subst hin; exact KeyOrd.kle_refl _
         · exact KeyOrd.kle_trans (h i (j - 1) (by lia) (by omega)) hle
       · exact h i j hij (by lia)
     obtain ⟨a,b,c⟩:=oF p f (n+1) (by grind) h'
     exact ⟨by lia,by lia,c⟩
structure DSt (O:KeyOrd) (key:Nat->O.α) (p0:Array Nat) (top:Nat) (p:Array Nat) (n q:Nat):Prop where
 pm:p.Perm p0
 lo:q < n
 hi:n<=top
 dn:Dn O key p n
 eq:∀ k,n - 1 - q<=k->k < n->at_ O key p k=at_ O key p (n - 1)
noncomputable def DS (O:KeyOrd) (key:Nat->O.α) (p0:Array Nat) (top:Nat) (r:Array Nat × Nat × Nat):Prop:=DSt O key p0 top r.1 r.2.1 r.2.2
theorem hJ (p0:Array Nat) (top:Nat) (ht:top<=p0.size):∀ (f:Nat) (p:Array Nat) (n q:Nat),n+f=top->DSt O key p0 top p n q ->
   DS O key p0 top (run (cm O key) (kas_desc f p n q))
 | 0,p,n,q,_,h=>h
 | f+1,p,n,q,hf,h=>by
   have hsz:p.size=p0.size:=h.pm.size_eq
   have hq:=h.lo
   unfold kas_desc
   rw [ll]
   by_cases hc:cm O key (p.getD n 0) (p.getD (n - 1) 0)=true
   · simp only [if_pos hc]
     have hlt:O.klt (at_ O key p n) (at_ O key p (n - 1)):=hc
     have step:∀ p':Array Nat,p'.Perm p->(∀ k,k < n->at_ O key p' k=at_ O key p k)->at_ O key p' n=at_ O key p n->DSt O key p0 top p' (n+1) 0:=by
       intro p' pm eq en
       refine ⟨pm.trans h.pm,by grind,by lia,?_,?_⟩
       · intro i j hij hj
         by_cases hjn:j=n
         · subst hjn
           by_cases hin:i=j
           · subst hin; exact KeyOrd.kle_refl _
           · rw [en,eq i (by lia)]
             exact KeyOrd.kle_trans (KeyOrd.kle_of_klt hlt) (h.dn i (j - 1) (by lia) (by lia))
         · rw [eq i (by lia),eq j (by lia)]; exact h.dn i j hij (by omega)
       · intro k h1 h2
         have:k=n:=by grind
         subst this; rfl
     by_cases hq0:q > 0
     · simp only [if_pos hq0]
       refine hJ p0 top ht f _ (n+1) 0 (by lia) (step _ (mirror_perm _ _ _ _) (Dn.revEq (q:=q) (by lia) (by grind) h.dn fun k h1 h2=>h.eq k (by lia) h2) ?_)
       rw [gv (by omega),if_neg (by grind)]
     · simp only [if_neg hq0]
       exact hJ p0 top ht f _ (n+1) 0 (by omega) (step p (Array.Perm.refl _) (fun _ _=>rfl) rfl)
   · simp only [if_neg hc]
     rw [ll]
     by_cases hd:cm O key (p.getD (n - 1) 0) (p.getD n 0)=true
     · simp only [if_pos hd]; exact h
     · simp only [if_neg hd]
       have e:at_ O key p n=at_ O key p (n - 1):=O.total _ _ (by simpa [cm,at_] using hc) (by simpa [cm,at_] using hd)
       refine hJ p0 top ht f p (n+1) (q+1) (by omega) ⟨h.pm,by grind,by omega,?_,?_⟩
       · intro i j hij hj
         by_cases hjn:j=n
         · subst hjn
           by_cases hin:i=j
           · subst hin; exact KeyOrd.kle_refl _
           · rw [e]; exact h.dn i (j - 1) (by omega) (by omega)
         · exact h.dn i j hij (by omega)
       · intro k h1 h2
         show _=at_ O key p n
         by_cases hk:k=n
         · rw [hk]
         · rw [e]; exact h.eq k (by lia) (by lia)
noncomputable def CSt (O:KeyOrd) (key:Nat->O.α) (p0:Array Nat) (top:Nat) (r:Nat × Array Nat):Prop:=r.2.Perm p0/\1<=r.1/\r.1<=top/\Up O key r.2 r.1
theorem mR {p0 p:Array Nat} {n top:Nat} (ht:top<=p0.size) (pm:p.Perm p0) (h1:1<=n) (hn:n<=top) (h:Dn O key p n):CSt O key p0 top (run (cm O key) (kas_tail3 n top p)):=by
 have hsz:p.size=p0.size:=pm.size_eq
 unfold kas_tail3
 rw [cG]
 obtain ⟨a,b,c⟩:=oF (O:=O) (key:=key) (kas_rev p 0 n) (top - n) n h1 (Up.rev (by lia) h)
 exact ⟨(mirror_perm _ _ _ _).trans pm,by show 1<=run _ _; exact Z24 h1 a,by show run _ _<=_; lia,c⟩
theorem gN {p0 p:Array Nat} {n top:Nat} (ht:top<=p0.size) (pm:p.Perm p0) (hn:n+1<=top) (h:Dn O key p (n+1)):CSt O key p0 top (run (cm O key) (kas_descPart n top p)):=by
 unfold kas_descPart
 rw [cG]
 have d:=hJ (O:=O) (key:=key) p0 top ht (top - (n+1)) p (n+1) 0 (by grind) ⟨pm,by grind,hn,h,fun k h1 h2=>by rw [show k=n+1 - 1 by lia]⟩
 generalize run (cm O key) (kas_desc (top - (n+1)) p (n+1) 0)=r at d
 obtain ⟨p',n',q'⟩:=r
 have hsz:p'.size=p0.size:=(DSt.pm d).size_eq
 have hq:q' < n':=DSt.lo d
 have hh:n'<=top:=DSt.hi d
 have d:DSt O key p0 top p' n' q':=d
 simp only
 split
 · refine mR ht ((mirror_perm _ _ _ _).trans d.pm) (by grind) d.hi ?_
   intro i j hij hj
   have e:=Dn.revEq (q:=q') (m:=n' - (q'+1)) (by lia) (by grind) d.dn fun k h1 h2=>d.eq k (by lia) h2
   rw [e i (by exact Nat.lt_of_le_of_lt hij hj),e j hj]
   exact d.dn i j hij hj
 · exact mR ht d.pm (by lia) d.hi d.dn
theorem uq {p0:Array Nat} {top:Nat} (h1:1<=top) (ht:top<=p0.size):CSt O key p0 top (run (cm O key) (kas_count top p0)):=by
 unfold kas_count
 rw [cG]
 have hu:Up O key p0 1:=fun i j hij hj=>by
   have:i=j:=by grind
   subst this; exact KeyOrd.kle_refl _
 obtain ⟨a,b,c⟩:=oF (O:=O) (key:=key) p0 (top - 1) 1 (Z10 _) hu
 have stop:∀ f n,1<=n->run (cm O key) (kas_asc p0 f n) ≠ n+f->O.klt (at_ O key p0 (run (cm O key) (kas_asc p0 f n))) (at_ O key p0 (run (cm O key) (kas_asc p0 f n) - 1)):=by
   intro f
   induction f with
   | zero=>intro n _ h; exact absurd rfl h
   | succ f ih=>
     intro n hn h
     have e:run (cm O key) (kas_asc p0 (f+1) n)=run (cm O key) (if cm O key (p0.getD n 0) (p0.getD (n - 1) 0)=true then .ret n else kas_asc p0 f (n+1)):=rfl
     rw [e] at h ⊢
     by_cases hc:cm O key (p0.getD n 0) (p0.getD (n - 1) 0)=true
     · rw [if_pos hc] at h ⊢; exact hc
     · rw [if_neg hc] at h ⊢; exact ih (n+1) (by grind) (by grind)
 have st:=stop (top - 1) 1 (Z10 _)
 generalize run (cm O key) (kas_asc p0 (top - 1) 1)=n at a b c st
 by_cases hn:(n == top)=true
 · rw [if_pos hn]
   have:n=top:=by simpa using hn
   exact ⟨Array.Perm.refl _,by show 1<=n; exact a,by show n<=top; exact (Nat.le_of_eq this),c⟩
 · rw [if_neg hn]
   have hne:n ≠ top:=by simpa using hn
   have hlt:=st (by lia)
   by_cases h2:n > 1
   · rw [if_pos h2]
     show CSt O key p0 top (run (cm O key) (if _ then _ else _))
     by_cases hc:cm O key (p0.getD 0 0) (p0.getD (n - 1) 0)=true
     · rw [if_pos hc]; exact ⟨Array.Perm.refl _,by show 1<=n; exact a,by show n<=top; grind,c⟩
     · rw [if_neg hc]
       have he:∀ k,k < n->at_ O key p0 k=at_ O key p0 (n - 1):=fun k hk=>by
         have h3:O.kle (at_ O key p0 (n - 1)) (at_ O key p0 0):=by unfold KeyOrd.kle; simpa [cm,at_] using hc
         exact KeyOrd.kle_antisymm (c k (n - 1) (by grind) (by lia)) (KeyOrd.kle_trans h3 (c 0 k (by omega) hk))
       refine gN ht (mirror_perm _ _ _ _) (by lia) ?_
       have er:∀ k,k < n->at_ O key (kas_rev p0 0 n) k=at_ O key p0 (n - 1):=fun k hk=>by
         rw [gv (by grind),if_pos ⟨by omega,hk⟩]; exact he _ (by grind)
       have en:at_ O key (kas_rev p0 0 n) n=at_ O key p0 n:=by rw [gv (by grind),if_neg (by grind)]
       intro i j hij hj
       by_cases hjn:j=n
       · subst hjn
         by_cases hin:i=j
         · subst hin; exact KeyOrd.kle_refl _
         · rw [en,er i (by lia)]; exact KeyOrd.kle_of_klt hlt
       · rw [er i (by lia),er j (by lia)]; exact KeyOrd.kle_refl _
   · rw [if_neg h2]
     have h11:n=1:=by lia
     subst h11
     refine gN ht (Array.Perm.refl _) (by lia) ?_
     intro i j hij hj
     by_cases hj0:j=0
     · have:i=0:=by grind
       subst this; subst hj0; exact KeyOrd.kle_refl _
     · have hj1:j=1:=by grind
       subst hj1
       by_cases hi:i=1
       · subst hi; exact KeyOrd.kle_refl _
       · have:i=0:=by grind
         subst this; exact KeyOrd.kle_of_klt hlt
theorem iO {p:Array Nat} {k:Nat} (hs:Up O key p k):∀ (f l r:Nat),r - l<=f->l<=r->r<=k->(∀ i,i < l->O.kle (at_ O key p i) (at_ O key p k))->(∀ i,r<=i->i < k->O.klt (at_ O key p k) (at_ O key p i)) ->
   run (cm O key) (kas_place p k f l r)<=k/\(∀ i,i < run (cm O key) (kas_place p k f l r)->O.kle (at_ O key p i) (at_ O key p k))/\∀ i,run (cm O key) (kas_place p k f l r)<=i->i < k->O.klt (at_ O key p k) (at_ O key p i)
 | 0,l,r,hf,hlr,hr,hl,hh=>by
   have:l=r:=by grind
   subst this
   exact ⟨hr,hl,hh⟩
 | f+1,l,r,hf,hlr,hr,hl,hh=>by
   unfold kas_place
   by_cases hge:l ≥ r
   · have:l=r:=by lia
     subst this
     rw [if_pos hge]; exact ⟨hr,hl,hh⟩
   · rw [if_neg hge]
     rw [ll]
     by_cases hc:cm O key (p.getD k 0) (p.getD ((l+r) / 2) 0)=true
     · rw [if_pos hc]
       exact iO hs f l ((l+r) / 2) (by grind) (by lia) (by lia) hl fun i h1 h2=>KeyOrd.klt_of_klt_of_kle (show O.klt (at_ O key p k) (at_ O key p ((l+r) / 2)) from hc) (hs _ _ h1 h2)
     · rw [if_neg hc]
       refine iO hs f ((l+r) / 2+1) r (by grind) (by lia) hr (fun i h1=>?_) hh
       exact KeyOrd.kle_trans (hs i ((l+r) / 2) (by lia) (by lia)) (by unfold KeyOrd.kle; simpa [cm,at_] using hc)
theorem ur (p0:Array Nat):∀ (f:Nat) (p:Array Nat) (k:Nat),p.Perm p0->k+f<=p0.size->Up O key p k->(run (cm O key) (kas_bin f p k)).Perm p0/\Up O key (run (cm O key) (kas_bin f p k)) (k+f)
 | 0,p,k,pm,_,h=>⟨pm,h⟩
 | f+1,p,k,pm,hk,h=>by
   have hsz:p.size=p0.size:=pm.size_eq
   unfold kas_bin
   rw [cG]
   obtain ⟨a,b,c⟩:=iO (O:=O) (key:=key) (p:=p) (k:=k) h k 0 k (by grind) (by grind) (Z10 _) (fun i hi=>by grind) (fun i h1 h2=>by lia)
   generalize run (cm O key) (kas_place p k k 0 k)=l at a b c
   have hb:=rb (O:=O) (key:=key) (p:=p) (src:=k) (d:=k - l) (by lia) (by grind)
   rw [show k - (k - l)=l by lia] at hb
   have h':Up O key (bubble p k (k - l)) (k+1):=by
     intro i j hij hj
     rw [hb i,hb j]
     by_cases hi:i=l
     · subst hi
       rw [if_pos rfl]
       by_cases hji:j=i
       · rw [if_pos hji]; exact KeyOrd.kle_refl _
       · rw [if_neg hji,if_pos ⟨by lia,by lia⟩]; exact KeyOrd.kle_of_klt (c (j - 1) (by lia) (by grind))
     · rw [if_neg hi]
       by_cases hil:i < l
       · rw [if_neg (show ¬ (l < i/\i<=k) by lia)]
         by_cases hjl:j=l
         · rw [if_pos hjl]; exact b i hil
         · rw [if_neg hjl]
           by_cases hj2:l < j/\j<=k
           · rw [if_pos hj2]; exact h i (j - 1) (by grind) (by grind)
           · rw [if_neg hj2]; exact h i j hij (by lia)
       · rw [if_pos ⟨by lia,by lia⟩,if_neg (show ¬ j=l by lia),if_pos ⟨by lia,by lia⟩]
         exact h (i - 1) (j - 1) (by grind) (by grind)
   obtain ⟨x,y⟩:=ur p0 f (bubble p k (k - l)) (k+1) ((bubble_perm _ _ _).trans pm) (by lia) h'
   exact ⟨x,by rwa [show k+(f+1)=k+1+f by grind]⟩
theorem xk {n:Nat} (h2:2<=n):(run (cm O key) (kas_sort n)).Perm (List.range n).toArray/\Up O key (run (cm O key) (kas_sort n)) n:=by
 have hsz:(List.range n).toArray.size=n:=by simp
 unfold kas_sort
 rw [cG]
 obtain ⟨a,b,c,d⟩:=uq (O:=O) (key:=key) (p0:=(List.range n).toArray) (top:=n) (by grind) (by exact Nat.le_of_eq hsz.symm)
 generalize run (cm O key) (kas_count n (List.range n).toArray)=r at a b c d
 split
 · have:=ur (O:=O) (key:=key) (List.range n).toArray (n - max r.1 1) r.2 (max r.1 1) a (by lia) (by rw [show max r.1 1=r.1 by lia]; exact d)
   rwa [show max r.1 1+(n - max r.1 1)=n by lia] at this
 · have:r.1=n:=by lia
   exact ⟨a,by rw [<- this]; exact d⟩
end
end Srt
namespace Srt
open PySem PySem.W PyProof.Rows L2
noncomputable def bK (N:Nat) {α:Type} (P:α->Prop):KasT α->Prop
 | .ret a=>P a
 | .ask i j k=>i < N/\j < N/\∀ b,bK N P (k b)
theorem bv {N:Nat} {α β:Type} {f:α->KasT β} {P:α->Prop} {R:β->Prop} (hf:∀ a,P a->bK N R (f a)):∀ t:KasT α,bK N P t->bK N R (t.bind f)
 | .ret a,h=>hf a h
 | .ask i j k,h=>⟨h.1,h.2.1,fun b=>bv hf (k b) (h.2.2 b)⟩
theorem aO {N:Nat} {α:Type} {P:α->Prop} {c:Prop} [Decidable c] {a b:KasT α} (h1:c->bK N P a) (h2:¬ c->bK N P b):bK N P (if c then a else b):=by
 split
 · exact h1 (by assumption)
 · exact h2 (by assumption)
noncomputable def In (N:Nat) (p:Array Nat):Prop:=∀ i,p.getD i 0 < N
theorem In.perm {N:Nat} {p q:Array Nat} (hN:0 < N) (h:In N p) (pm:q.Perm p):In N q:=by
 intro i
 rw [Array.getD_eq_getD_getElem?]
 cases e:q[i]? with
 | none=>exact hN
 | some x=>
   show x < N
   have hx:x ∈ q:=Array.mem_of_getElem? e
   have hp:x ∈ p:=pm.mem_iff.mp hx
   obtain ⟨j,hj,ej⟩:=Array.mem_iff_getElem.mp hp
   have:=h j
   rw [Array.getD_eq_getD_getElem?,Array.getElem?_eq_getElem hj,ej] at this
   exact this
section
variable {N:Nat} (hN:0 < N)
include hN
theorem In.rev {p:Array Nat} (h:In N p) (i j:Nat):In N (kas_rev p i j):=h.perm hN (mirror_perm _ _ _ _)
theorem ut {p:Array Nat} (h:In N p):∀ f n,bK N (fun _=>True) (kas_asc p f n)
 | 0,n=>trivial
 | f+1,n=>⟨h _,h _,fun b=>aO (fun _=>trivial) fun _=>ut h f (n+1)⟩
theorem lm:∀ f (p:Array Nat) n q,In N p->bK N (fun r=>In N r.1) (kas_desc f p n q)
 | 0,p,n,q,h=>h
 | f+1,p,n,q,h=>⟨h _,h _,fun b=>aO (fun _=>aO (fun _=>lm f _ _ _ (h.rev hN _ _)) fun _=>lm f _ _ _ h) fun _=>⟨h _,h _,fun d=>aO (fun _=>h) fun _=>lm f _ _ _ h⟩⟩
theorem pU {p:Array Nat} (h:In N p) (n m:Nat):bK N (fun r=>In N r.2) (kas_tail3 n m p):=bv (P:=fun _=>True) (R:=fun r=>In N r.2) (f:=fun m=>.ret (m,kas_rev p 0 n)) (fun a _=>h.rev hN 0 n) _ (ut hN (h.rev hN _ _) _ _)
theorem iP {p:Array Nat} (h:In N p) (n m:Nat):bK N (fun r=>In N r.2) (kas_descPart n m p):=by
 unfold kas_descPart
 refine bv (P:=fun r=>In N r.1) (fun r hr=>?_) _ (lm hN _ _ _ _ h)
 exact aO (fun _=>pU hN (hr.rev hN _ _) _ _) fun _=>pU hN hr _ _
theorem xl {p:Array Nat} (h:In N p) (m:Nat):bK N (fun r=>In N r.2) (kas_count m p):=by
 unfold kas_count
 refine bv (P:=fun _=>True) (fun n _=>?_) _ (ut hN h _ _)
 exact aO (fun _=>h) fun _=>aO (fun _=>⟨h _,h _,fun c=>aO (fun _=>h) fun _=>iP hN (h.rev hN _ _) _ _⟩) fun _=>iP hN h _ _
theorem lu {p:Array Nat} (h:In N p) (k:Nat):∀ f l r,bK N (fun _=>True) (kas_place p k f l r)
 | 0,l,r=>trivial
 | f+1,l,r=>by
   unfold kas_place
   exact aO (fun _=>trivial) fun _=>⟨h _,h _,fun c=>aO (fun _=>lu h k f _ _) fun _=>lu h k f _ _⟩
theorem zu:∀ f (p:Array Nat) k,In N p->bK N (fun _=>True) (kas_bin f p k)
 | 0,p,k,h=>trivial
 | f+1,p,k,h=>by
   unfold kas_bin
   exact bv (P:=fun _=>True) (fun l _=>zu f _ _ (h.perm hN (bubble_perm _ _ _))) _ (lu hN h k _ _ _)
end
theorem Bw {n:Nat} (h:0 < n):bK n (fun _=>True) (kas_sort n):=by
 have hp:In n (List.range n).toArray:=by
   intro i
   rw [Array.getD_eq_getD_getElem?]
   cases e:(List.range n).toArray[i]? with
   | none=>exact h
   | some x=>
     show x < n
     have:x ∈ (List.range n).toArray:=Array.mem_of_getElem? e
     simpa using this
 unfold kas_sort
 refine bv (P:=fun r=>In n r.2) (fun r hr=>?_) _ (xl h hp _)
 exact aO (fun _=>zu h _ _ _ hr) fun _=>trivial
theorem jT {N:Nat} {α:Type} {P:α->Prop} {c:Nat->Nat->Bool} {cmp:Nat->Nat->(Bool->Shared->Prop)->Shared->Prop} {Q:α->Shared->Prop} {s:Shared} (hc:∀ i j C,i < N->j < N->C (c i j) s->cmp i j C s) :
   ∀ t:KasT α,bK N P t->Q (run c t) s->t.kasWp cmp Q s
 | .ret a,_,h=>h
 | .ask i j k,g,h=>hc i j _ g.1 g.2.1 (jT hc (k (c i j)) (g.2.2 _) h)
theorem eX:∀ a:List Int,HT.aH a a=false
 | []=>rfl
 | x::a=>by rw [HT.aP,if_pos rfl]; exact eX a
theorem gw:∀ a b c:List Int,HT.aH a b=true->HT.aH b c=true->HT.aH a c=true
 | [],[],_,h,_=>by rw [HT.cn] at h; cases h
 | [],_::_,[],_,h=>by rw [HT.bn] at h; cases h
 | [],_::_,_::_,_,_=>rfl
 | _::_,[],_,h,_=>by rw [HT.bn] at h; cases h
 | _::_,_::_,[],_,h=>by rw [HT.bn] at h; cases h
 | x::a,y::b,z::c,h,k=>by
   rw [HT.aP] at h k ⊢
   split at h
   · split at k
     · rw [if_pos (by grind)]; exact gw a b c h k
     · have:=of_decide_eq_true k
       rw [if_neg (by grind)]; exact decide_eq_true (by grind)
   · have h1:=of_decide_eq_true h
     split at k
     · rw [if_neg (by grind)]; exact decide_eq_true (by grind)
     · have:=of_decide_eq_true k
       rw [if_neg (by lia)]; exact decide_eq_true (by exact Int.lt_trans h1 this)
theorem lv:∀ a b c:List Int,HT.aH a c=true->HT.aH a b=true∨HT.aH b c=true
 | [],_,[],h=>by rw [HT.cn] at h; cases h
 | _::_,_,[],h=>by rw [HT.bn] at h; cases h
 | [],[],z::c,_=>.inr rfl
 | [],y::b,z::c,_=>.inl rfl
 | x::a,[],z::c,_=>.inr rfl
 | x::a,y::b,z::c,h=>by
   rw [HT.aP] at h
   rw [HT.aP,HT.aP]
   by_cases h1:x=y
   · subst h1
     rw [if_pos rfl]
     by_cases h2:x=z
     · subst h2
       rw [if_pos rfl] at h ⊢
       exact lv a b c h
     · rw [if_neg h2] at h ⊢; exact .inr h
   · rw [if_neg h1]
     by_cases h3:x < y
     · exact .inl (decide_eq_true h3)
     · refine .inr ?_
       split at h
       · rw [if_neg (by grind)]; exact decide_eq_true (by lia)
       · have:=of_decide_eq_true h
         rw [if_neg (by grind)]; exact decide_eq_true (by omega)
theorem gx:∀ a b:List Int,HT.aH a b=false->HT.aH b a=false->a=b
 | [],[],_,_=>rfl
 | [],y::b,h,_=>by rw [HT.di] at h; cases h
 | x::a,[],_,h=>by rw [HT.di] at h; cases h
 | x::a,y::b,h,k=>by
   rw [HT.aP] at h k
   by_cases e:x=y
   · subst e
     rw [if_pos rfl] at h k
     rw [gx a b h k]
   · rw [if_neg e] at h
     rw [if_neg (Ne.symm e)] at k
     have:=of_decide_eq_false h
     have:=of_decide_eq_false k
     lia
noncomputable def Ex:KeyOrd:=⟨List Int,HT.aH,eX,gw,lv,gx⟩
section
variable {prog:Program} {w:World} {A:Around} {s:Shared}
theorem xm {b:Bool} {i j:Int} {t u:Tok} {Q:Bool->Shared->Prop} {E:Value->Shared->Prop} (h:Q (decide (i < j)) s):wpAny (model prog w) A (oneLt' b (.int i t) (.int j u)) Q E s:=by
 cases b with
 | true=>exact oneLt_int h
 | false=>exact kat_one _ _ (lt_int (show PySem.W.BoolBack Q (.bool (decide (i < j))) s from h))
theorem pV {b:Bool} {Q:Bool->Shared->Prop} {fin:Bool}:∀ {us vs:List Value} {ns ms:List Int} (i:Nat),IntsAre us ns->IntsAre vs ms->fin=decide (ns.length < ms.length)->Q (HT.aH ns ms) s->KatLex prog w A b fin Q (us.zip vs) i s
 | [],[],ns,ms,i,h1,h2,hf,h=>by
   cases h1; cases h2
   rw [hf]; exact h
 | [],v::vs,ns,ms,i,h1,h2,hf,h=>by
   cases h1; cases h2
   rw [hf]
   exact h
 | u::us,[],ns,ms,i,h1,h2,hf,h=>by
   cases h1; cases h2
   rw [hf]
   exact h
 | u::us,v::vs,ns,ms,i,h1,h2,hf,h=>by
   cases h1 with
   | cons x t h1=>
     rename_i ns
     cases h2 with
     | cons y t' h2=>
       rename_i ms
       rw [List.zip_cons_cons]
       refine kat_cons ?_
       refine SeqAt.EqAt.int_int (A:=A) (s:=s) x t y t' prog w _ _ ?_
       rw [HT.aP] at h
       by_cases e:x=y
       · subst e
         rw [if_pos rfl] at h
         rw [show (x == x)=true by simp]
         exact kat_yes (pV (i+1) h1 h2 (by rw [hf]; simp) h)
       · rw [if_neg e] at h
         rw [show (x == y)=false by simpa using e]
         exact kat_no (xm h)
theorem uu {vs:List Value} (hl:vs.length < 2):(arrOf (SortSt.mk' general' (vs.toArray.zip vs.toArray) #[] 7 none)).map (·.2)=(List.map (fun i=>vs.getD i Value.none) (List.range vs.length)).toArray:=by
 show (vs.toArray.zip vs.toArray).map (·.2)=_
 cases vs with
 | nil=>simp
 | cons v r=>
   cases r with
   | nil=>simp
   | cons u r=>exact absurd (Nat.lt_of_succ_lt_succ hl) (Nat.not_lt_zero _ <| Nat.lt_of_succ_lt_succ ·)
theorem xn {O:KeyOrd} {key:Nat->O.α} {a:Addr} {vs:List Value} {n:Nat} {P:PySem.Fin->Shared->Prop} {E:Value->Shared->Prop} (ho:s.heap.get? a=some (seqObj "list" vs.toArray n)) (h64:vs.length < 64)
   (hk:2<=vs.length->∀ s':Shared,(∀ b o,b ≠ a->s.heap.get? b=some o->s'.heap.get? b=some o)->∃ κ,(∀ (Q:SortKind->Shared->Prop) (E:Value->Shared->Prop),Q κ s'->wpAny (model prog w) A (keyKind' vs.toArray) Q E s')/\∀ i j C,i < vs.length->j < vs.length->C (O.blt (key i) (key j)) s'->kas_ask prog w A κ vs i j C s')
   (h:∀ q:List Nat,q.Perm (List.range vs.length)->(∀ i j,i<=j->j < vs.length->O.kle (key (q.getD i 0)) (key (q.getD j 0)))->P (.done (.ret .none)) { s with heap:=sortedHeap s.heap a vs (q.map fun i=>vs.getD i Value.none).toArray }) :
   wpAny (model prog w) A (Builtin.«list.sort» ⟨[.ref a],[]⟩) P E s:=by
 obtain ⟨e1,g1⟩:∃ e1,(s.heap.update a (Obj.mapSeq fun _=>#[])).get? a=some (seqObj "list" #[] e1):=⟨_,get?_update_seq ho fun _=>#[]⟩
 rw [list_sort_plain]
 have la:a < s.heap.objs.size:=Z13 ho
 apply Z55; apply listItems_at ho rfl
 apply Z55; refine listUpdate_at ho rfl ?_ (by simp -iota [sizeLine_eq]; lia) (Z30 _)
 apply Z55; apply seqEpoch_at g1 rfl
 apply Z55; refine wpAny_newTuple ?_ (by show vs.length<=_; rw [sizeLine_eq]; omega)
 apply Z55; refine wpAny_newList ?_ (Z30 _)
 apply wpAny_holding
 generalize eh:((s.heap.update a (Obj.mapSeq fun _=>(#[]:Array Value))).push (seqObj "tuple" vs.toArray 0)).push (seqObj "list" #[] 0)=hh
 have g6:hh.get? a=some (seqObj "list" #[] e1):=by
   subst eh
   rw [Heap.get?_push_ne _ _ _ (by rw [size_push',Heap.size_update]; exact Z26 (Nat.lt_succ_of_lt la))]
   rw [Heap.get?_push_ne _ _ _ (by rw [Heap.size_update]; exact Z26 la)]
   exact g1
 have gk:∀ b o,b ≠ a->s.heap.get? b=some o->hh.get? b=some o:=by
   subst eh
   intro b o hb hg
   exact Z7 _ (Z7 _ ((Heap.get?_update_ne _ _ _ _ hb).trans hg))
 have hf:∀ out,sortedHeap s.heap a vs out=hh.update a (Obj.mapSeq fun _=>out):=fun out=>by subst eh; rfl
 show wpAny (model prog w) A _ P E { s with heap:=hh }
 dsimp only
 by_cases h2:vs.toArray.size < 2
 · have hl:vs.length < 2:=by simpa using h2
   simp -iota only [if_pos h2]
   apply Z55; apply Z56
   rw [StateT.run_pure]
   apply Z55; apply Z56
   dsimp only
   apply Z55; apply seqEpoch_at g6 rfl
   have eo:=uu hl
   apply Z55
   refine listUpdate_at g6 rfl ?_ (Z30 _) (by rw [eo]; simp -iota [sizeLine_eq]; lia)
   simp -iota only [bne_self_eq_false,Z47,if_false]
   apply Z56
   rw [eo]
   have:=h (List.range vs.length) (List.Perm.refl _) (fun i j hij hj=>by
     have:i=j:=by grind
     subst this; exact KeyOrd.kle_refl _)
   rw [hf] at this
   exact this
 · have hl:2<=vs.length:=by simpa using h2
   simp -iota only [if_neg h2]
   obtain ⟨κ,k1,k2⟩:=hk hl { s with heap:=hh } gk
   apply Z55
   apply k1
   have so:=xk (O:=O) (key:=key) hl
   generalize hp:run (cm O key) (kas_sort vs.length)=p at so
   have psz:p.size=vs.length:=by rw [so.1.size_eq]; simp
   apply Z55
   refine wpAny_mono (kat_run (κ:=κ) (E:=fun _ _=>False) (Q:=fun st' s'=>s'={ s with heap:=hh }/\arrOf st'=p.map (kas_item (vs.toArray.zip vs.toArray))/\failedOf st'=none) (G:=fun p' s'=>p'=p/\s'={ s with heap:=hh }) rfl hl h64
     (fun p' st' s' a1 a2 a3 a4=>⟨a4.2,by rw [a2,a4.1],a3⟩) (jT k2 _ (Bw (by grind)) ⟨hp,rfl⟩)) ?_ (fun _ _ z=>z.elim)
   rintro ⟨⟨⟩,st'⟩ s' ⟨rfl,ha,hff⟩
   dsimp only at ha hff ⊢
   have eo:=kat_snds rfl ha
   rw [eo]
   apply Z55; apply seqEpoch_at g6 rfl
   apply Z55
   refine listUpdate_at g6 rfl ?_ (Z30 _) (by simp -iota [sizeLine_eq,psz]; lia)
   rw [hff]
   simp -iota only [bne_self_eq_false,Z47,if_false]
   apply Z56
   have:=h p.toList (by have:=Array.perm_iff_toList_perm.mp so.1; simpa using this) (fun i j hij hj=>by
     have:=so.2 i j hij hj
     unfold at_ at this
     rw [Array.getD_eq_getD_getElem?,Array.getD_eq_getD_getElem?] at this
     rw [Z5,Z5]
     simpa using this)
   rw [hf] at this
   exact this
theorem mS {l:Addr} {vs:List Value} {o:Obj} {n:Nat} {Q:List Value->Shared->Prop} {E:Value->Shared->Prop} (ho:s.heap.get? l=some o) (hc:o.cls=.type "tuple") (hd:o.data=.seq vs.toArray n) (hz:vs.length<=sizeLine)
   (h:Q vs { s with heap:=(s.heap.push (seqObj "list" #[] 0)).update s.heap.objs.size (Obj.mapSeq (·++vs.toArray)) }):wpAny (model prog w) A (collect (.ref l)) Q E s:=by
 have g':(s.heap.push (seqObj "list" #[] 0)).get? l=some o:=Z7 _ ho
 have gn:(s.heap.push (seqObj "list" #[] 0)).get? s.heap.objs.size=some (seqObj "list" #[] 0):=Z20 _ rfl
 unfold collect
 apply Z55
 apply wpAny_runValue
 apply codeAny_builtin entry_proto_collect'
 show wpAny _ _ (do again (.builtin "list.__iadd__" ⟨[<- newList [],.ref l],[]⟩)) _ _ _
 apply Z55
 refine wpAny_newList ?_ (Z30 _)
 apply Z56
 refine ⟨Code.quiet_builtin _ (by decide +kernel),codeAny_builtin entry_list_iadd' ?_⟩
 show wpAny _ _ (Builtin.List.listExtendWith _ _ _) _ _ _
 unfold Builtin.List.listExtendWith
 apply Z55
 refine wpAny_typeOf (T:="tuple") ⟨o,g',hc⟩ ?_
 have tt:(Value.type "tuple" == Value.type "tuple")=true:=rfl
 rw [if_pos (by rw [tt]; simp)]
 apply Z55
 refine listItems_at g' hd ?_
 apply Z55
 refine listItems_at gn rfl ?_
 rw [if_neg (by simp)]
 apply Z55
 refine listUpdate_at gn rfl ?_ (Z30 _) (by simp; lia)
 apply Z56
 have gu:=get?_update_seq gn (·++vs.toArray)
 apply Z55
 refine wpAny_load gu ?_
 show wpAny _ _ (pure ((#[]:Array Value)++vs.toArray).toList) _ _ _
 rw [show ((#[]:Array Value)++vs.toArray).toList=vs by simp]
 apply Z56
 exact h
theorem rg {O:KeyOrd} {key:Nat->O.α} {l:Addr} {vs:List Value} {Q:Value->Shared->Prop} {E:Value->Shared->Prop} (hcol:∀ (A:Around) (Q:List Value->Shared->Prop) (E:Value->Shared->Prop),Q vs { s with heap:=(s.heap.push (seqObj "list" #[] 0)).update s.heap.objs.size (Obj.mapSeq (·++vs.toArray)) }->wpAny (model prog w) A (collect (.ref l)) Q E s) (h64:vs.length < 64)
   (hk:2<=vs.length->∀ (A:Around) (s':Shared),(∀ b o,s.heap.get? b=some o->s'.heap.get? b=some o)->∃ κ,(∀ (Q:SortKind->Shared->Prop) (E:Value->Shared->Prop),Q κ s'->wpAny (model prog w) A (keyKind' vs.toArray) Q E s')/\∀ i j C,i < vs.length->j < vs.length->C (O.blt (key i) (key j)) s'->kas_ask prog w A κ vs i j C s')
   (h:∀ q:List Nat,q.Perm (List.range vs.length)->(∀ i j,i<=j->j < vs.length->O.kle (key (q.getD i 0)) (key (q.getD j 0)))->Q (.ref (s.heap.objs.size+1)) { s with heap:=sortedAll s.heap vs (q.map fun i=>vs.getD i Value.none).toArray }) :
   wpAny (model prog w) A (call (.builtin "sorted") [.ref l]) Q E s:=by
 apply Calls.call_function_entry kind_sorted plain_sorted entry_sorted (args_sorted1 _)
 unfold Builtin.«sorted»
 apply Z55 (m:=checkCount "sorted" 1 1 _); apply Z56
 apply Z55; refine hcol _ _ _ ?_
 apply Z55; refine wpAny_newList ?_ (by rw [sizeLine_eq]; omega)
 have hz:((s.heap.push (seqObj "list" #[] 0)).update s.heap.objs.size (Obj.mapSeq (·++vs.toArray))).objs.size=s.heap.objs.size+1:=by rw [Heap.size_update,size_push']
 generalize e1:(s.heap.push (seqObj "list" #[] 0)).update s.heap.objs.size (Obj.mapSeq (·++vs.toArray))=h1 at hz
 have kp:∀ b o,s.heap.get? b=some o->h1.get? b=some o:=fun b o e=>by
   subst e1
   exact (Heap.get?_update_ne _ _ _ _ (Z26 (Z13 e))).trans (Z7 _ e)
 dsimp only
 have ea:∀ out,sortedAll s.heap vs out=sortedHeap (h1.push (seqObj "list" vs.toArray 0)) (s.heap.objs.size+1) vs out:=fun out=>by subst e1; rfl
 rw [hz]
 have hoL:(h1.push (seqObj "list" vs.toArray 0)).get? (s.heap.objs.size+1)=some (seqObj "list" vs.toArray 0):=by
   rw [<- hz]; exact Z20 _ rfl
 apply Z55
 apply wpAny_holding
 refine wpAny_call_entry slot_list_sort ⟨_,hoL,rfl⟩ entry_list_sort (xn (O:=O) (key:=key) hoL h64 (fun h2 s' hs=>hk h2 _ s' fun b o e=>hs b o (fun z=>?_) (Z7 _ (kp b o e))) fun q q1 q2=>⟨_,rfl,?_⟩) (args_list_sort _)
 · exact absurd z (Z26 (Nat.lt_succ_of_lt (Z13 e)))
 · apply Z56
   refine ⟨_,rfl,?_⟩
   have:=h q q1 q2
   rw [ea] at this
   exact this
end
noncomputable def Ey (K:PySem.W.Frag) (H:Hp) (ys:List V) (ks:List (List Int)):Prop:=ks.length=ys.length/\∀ (i:Nat) (y:V),ys[i]?=some y->∃ b n ns,y=.ref b/\ks[i]?=some (n::ns)/\SqT K H b ((n::ns).map V.int)
noncomputable def zw (ks:List (List Int)) (q:List Nat):Prop:=∀ i j,i<=j->j < ks.length->HT.aH (ks.getD (q.getD j 0) []) (ks.getD (q.getD i 0) [])=false
noncomputable def uv (K:PySem.W.Frag) (xs:List V) (H:Hp) (Q:VK):Prop:=∃ a ys ks,xs=[.ref a]/\(SqL K H a ys∨SqT K H a ys)/\ys.length < 64/\Ey K H ys ks /\
 ∀ q:List Nat,q.Perm (List.range ys.length)->zw ks q->∀ l,H l=none->Q (.ref l) (upd H l (.lst (q.map fun i=>ys.getD i .non)))
theorem jU:∀ {ns:List Int} {its:List Value},Vals (ns.map V.int) its->IntsAre its ns:=by
 intro ns
 induction ns with
 | nil=>intro its h; cases h; exact .nil
 | cons n ns ih=>
   intro its h
   rcases h with _ | ⟨r,t⟩
   obtain ⟨k,rfl⟩:=r
   exact .cons n k (ih t)
theorem mT {h:Heap}:∀ {vs:List Value} {fs:List Value},vs.length=fs.length->(∀ (i:Nat) (v:Value),vs[i]?=some v->∃ a o xs n f,v=.ref a/\h.get? a=some o/\o.cls=.type "tuple"/\o.data=.seq xs n/\xs[0]?=some f/\fs[i]?=some f)->KatTups h vs fs
 | [],[],_,_=>trivial
 | [],_::_,e,_=>by simp at e
 | _::_,[],e,_=>by simp at e
 | v::vs,f::fs,e,k=>by
   obtain ⟨a,o,xs,n,f',rfl,h1,h2,h3,h4,h5⟩:=k 0 v rfl
   have:f'=f:=by simpa using h5.symm
   subst this
   exact .cons h1 h2 h3 h4 (mT (by simpa using e) fun i v' hv=>k (i+1) v' (by simpa using hv))
theorem rh {X:Cx}:CallR X (.builtin "sorted") (uv X.K):=by
 intro pins s σ H xs us Q I r h
 obtain ⟨a,ys,ks,rfl,hq,h64,⟨hkl,hks⟩,q⟩:=h
 obtain ⟨u,rfl,rx⟩:=dh r
 cases rx
 obtain ⟨its,r',hz,hcol⟩:∃ its,Vals ys its/\ys.length<=sizeLine/\∀ (A:Around) (Q:List Value->Shared->Prop) (E:Value->Shared->Prop),Q its { s with heap:=(s.heap.push (seqObj "list" #[] 0)).update s.heap.objs.size (Obj.mapSeq (·++its.toArray)) }->wpAny (model X.prog X.w) A (collect (.ref a)) Q E s:=by
   rcases hq with hq | hq
   · obtain ⟨its,r',pl,hz⟩:=I.list hq
     exact ⟨its,r',hz,fun A Q E z=>collect_list pl.isList z (by rw [<- r'.length]; exact hz)⟩
   · obtain ⟨its,r',⟨o,ho,hc,n,hd⟩,hz⟩:=I.tuple hq
     exact ⟨its,r',hz,fun A Q E z=>mS ho hc hd (by rw [<- r'.length]; exact hz) z⟩
 have hlen:=r'.length
 refine rg (O:=Ex) (key:=fun i=>ks.getD i []) hcol (by lia) ?_ ?_
 · intro h2 A s' kp
   have one:∀ (i:Nat) (v:Value),its[i]?=some v->∃ b o xs n m ms,v=.ref b/\s'.heap.get? b=some o/\o.cls=.type "tuple"/\o.data=.seq xs n/\IntsAre xs.toList (m::ms)/\ks.getD i []=m::ms:=by
     intro i v hv
     have hi:i < its.length:=(Z9.mp hv).1
     obtain ⟨y,hy⟩:∃ y,ys[i]?=some y:=⟨_,Z3 (by lia)⟩
     obtain ⟨v',hv',rv⟩:=r'.get hy
     rw [hv] at hv'; cases hv'
     obtain ⟨b,m,ms,rfl,hk,ht⟩:=hks i y hy
     cases rv
     obtain ⟨ts,rt,⟨o,ho,hc,n,hd⟩,_⟩:=I.tuple ht
     exact ⟨b,o,ts.toArray,n,m,ms,rfl,kp b o ho,hc,hd,by simpa using jU rt,by rw [Z5,hk]; rfl⟩
   refine ⟨tuples' (Value.type "int" != Value.type "tuple"),fun Q' E' hQ=>?_,fun i j C hi hj hC=>?_⟩
   · have fst:∀ i:Nat,∃ f:Value,∀ v:Value,its[i]?=some v->∃ b o xs n,v=.ref b/\s'.heap.get? b=some o/\o.cls=.type "tuple"/\o.data=.seq xs n/\xs[0]?=some f/\∃ m t,f=.int m t:=by
       intro i
       cases e:its[i]? with
       | none=>exact ⟨.none,fun v hv=>by cases hv⟩
       | some v=>
         obtain ⟨b,o,xs,n,m,ms,rfl,h1,h2,h3,h4,_⟩:=one i v e
         generalize el:xs.toList=l at h4
         cases h4 with
         | cons m t h4=>
           refine ⟨.int m t,fun v' hv'=>?_⟩
           cases hv'
           exact ⟨b,o,xs,n,rfl,h1,h2,h3,by rw [<- Array.getElem?_toList,el]; rfl,m,t,rfl⟩
     obtain ⟨f,hf⟩:=Classical.axiomOfChoice fst
     have hall:∀ v ∈ (List.range its.length).map f,∃ m t,v=.int m t:=by
       intro v hv
       obtain ⟨i,hi,rfl⟩:=Z18.mp hv
       have hi':=List.mem_range.mp hi
       obtain ⟨_,_,_,_,_,_,_,_,_,z⟩:=hf i _ (Z3 hi')
       exact z
     refine kat_kind (fs:=(List.range its.length).map f) (T:=.type "int") (mT (by simp) fun i v hv=>?_) (by simp; grind) (fun v hv=>?_) (by decide) hQ
     · obtain ⟨b,o,xs,n,h1,h2,h3,h4,h5,_⟩:=hf i v hv
       have hi:i < its.length:=(Z9.mp hv).1
       exact ⟨b,o,xs,n,f i,h1,h2,h3,h4,h5,by simp [hi]⟩
     · obtain ⟨m,t,rfl⟩:=hall v hv
       exact .now
   · obtain ⟨v,hv⟩:∃ v,its[i]?=some v:=⟨_,Z3 hi⟩
     obtain ⟨v',hv'⟩:∃ v,its[j]?=some v:=⟨_,Z3 hj⟩
     obtain ⟨b,o,xs,n,m,ms,rfl,h1,h2,h3,h4,h5⟩:=one i v hv
     obtain ⟨b',o',xs',n',m',ms',rfl,h1',h2',h3',h4',h5'⟩:=one j v' hv'
     unfold kas_ask
     rw [Z5,Z5,hv,hv']
     refine kat_lt h1 h3 h1' h3' (pV 0 h4 h4' ?_ ?_)
     · rw [<- h4.length,<- h4'.length]; simp
     · have:C (HT.aH (ks.getD i []) (ks.getD j [])) s':=hC
       rwa [h5,h5'] at this
 · intro p p1 p2
   obtain ⟨e,he⟩:=sortedAll_at s.heap its (p.map fun i=>its.getD i Value.none).toArray
   refine ⟨.ref (s.heap.objs.size+1),_,I.laid (t':=s.toks) (fun b o hb=>sortedAll_old hb) (Nat.le_succ _) (show ObjOk X.prog X.w _ _ _ (.lst (p.map fun i=>ys.getD i .non)) from ⟨?_,p.map fun i=>its.getD i Value.none,e,?_,he⟩),rfl,q p (by rw [hlen]; exact p1) (fun i j hij hj=>p2 i j hij (by grind)) _ (I.hok.fresh (Nat.le_succ _))⟩
   · have:=p1.length_eq
     simp at this
     simp [this,sizeLine_eq]; lia
   · have all:∀ l:List Nat,(∀ i ∈ l,i < ys.length)->Vals (l.map fun i=>ys.getD i .non) (l.map fun i=>its.getD i Value.none):=by
       intro l
       induction l with
       | nil=>intro _; exact .nil
       | cons i l ih=>
         intro hl
         obtain ⟨y,hy⟩:∃ y,ys[i]?=some y:=⟨_,Z3 (hl i (by simp))⟩
         obtain ⟨u,hu,ru⟩:=r'.get hy
         refine .cons ?_ (ih fun j hj=>hl j (by simp [hj]))
         dsimp only
         rw [Z5,Z5,hy,hu]
         exact ru
     exact all p fun i hi=>by have:=p1.mem_iff.mp hi; rw [List.mem_range] at this; lia
end Srt
namespace Srt
open PySem PySem.W PyProof.Rows L2 Mir
noncomputable def uw (K:PySem.W.Frag) (xs:List V) (H:Hp) (Q:VK):Prop:=∃ a ns,xs=[.ref a]/\SqL K H a (ns.map V.int)/\ns.length < 64 /\
 ∀ ms:List Int,ms.Perm ns->ms.Pairwise (·<=·)->∀ l,H l=none->Q (.ref l) (upd H l (.lst (ms.map V.int)))
theorem dR {ns:List Int} {its:List Value} (h:IntsAre its ns):Vals (ns.map V.int) its:=by
 induction h with
 | nil=>exact .nil
 | cons _ t _ ih=>exact .cons ⟨t,rfl⟩ ih
theorem oG {X:Cx}:CallR X (.builtin "sorted") (uw X.K):=by
 intro pins s σ H xs us Q I r h
 obtain ⟨a,ns,rfl,hq,h64,q⟩:=h
 obtain ⟨u,rfl,rx⟩:=dh r
 cases rx
 obtain ⟨its,r',pl,hz⟩:=I.list hq
 have hlen:=r'.length
 rw [Z2] at hlen
 refine sorted_ints pl.isList (jU r') (by lia) fun out ms m1 m2 m3=>?_
 obtain ⟨e,he⟩:=sortedAll_at s.heap its out
 have hl2:=m2.length_eq
 exact ⟨.ref (s.heap.objs.size+1),_,I.laid (t':=s.toks) (fun b o hb=>sortedAll_old hb) (Nat.le_succ _) (show ObjOk X.prog X.w _ _ _ (.lst (ms.map V.int)) from ⟨by rw [Z2,sizeLine_eq]; lia,out.toList,e,dR m1,he⟩),rfl,q ms m2 m3 _ (I.hok.fresh (Nat.le_succ _))⟩
noncomputable def ux (K:PySem.W.Frag) (xs:List V) (H:Hp) (Q:VK):Prop:=uv K xs H Q∨uw K xs H Q
theorem oH {X:Cx} {K:PySem.W.Frag} (kt:KT K) (hK:X.K=K:=by rfl):CallR X (.builtin "sorted") (ux K):=by
 subst hK
 intro pins s σ H xs us Q I r h
 rcases h with h | h
 · exact rh pins s σ H xs us Q I r h
 · exact oG pins s σ H xs us Q I r h
noncomputable def gy (k:List Int):D:=.tup (k.map D.int)
noncomputable def fI:List D->Option (List (List Int))
 | []=>some []
 | .tup l::r=>(dw l).bind fun k=>if k=[] then none else (fI r).bind fun ks=>some (k::ks)
 | _=>none
theorem gz:∀ {l:List D} {ks:List (List Int)},fI l=some ks->l=ks.map gy/\∀ k ∈ ks,k ≠ []
 | [],ks,h=>by cases h; exact ⟨rfl,by simp⟩
 | .tup l::r,ks,h=>by
   unfold fI at h
   simp only [Z0] at h
   obtain ⟨k,h1,h2⟩:=h
   split at h2
   · cases h2
   · simp only [Z0] at h2
     obtain ⟨ks',h3,h4⟩:=h2
     cases h4
     obtain ⟨e,f⟩:=gz h3
     refine ⟨by rw [Z6,<- e,gy,<- gf h1],fun k' hk=>?_⟩
     rcases Z19.mp hk with rfl | hk
     · assumption
     · exact f k' hk
 | .non::r,ks,h=>by cases h
 | .bl _::r,ks,h=>by cases h
 | .int _::r,ks,h=>by cases h
 | .str _::r,ks,h=>by cases h
 | .lst _::r,ks,h=>by cases h
theorem mU:∀ (ks:List (List Int)),(∀ k ∈ ks,k ≠ [])->fI (ks.map gy)=some ks
 | [],_=>rfl
 | k::ks,h=>by
   show fI (.tup (k.map D.int)::ks.map gy)=_
   unfold fI
   rw [tX,Z1,if_neg (h k (by simp)),mU ks fun k' hk=>h k' (by simp [hk])]
   rfl
noncomputable abbrev bL (a b:List Int):Bool:=!HT.aH b a
noncomputable def iQ (ks:List (List Int)):List (List Int):=ks.mergeSort bL
noncomputable def mV (ns:List Int):List Int:=ns.mergeSort fun a b=>decide (a<=b)
noncomputable def gO:List D->Option D
 | [.lst l]=>match dw l with
   | some ns=>if ns.length < 64 then some (.lst ((mV ns).map D.int)) else none
   | none=>(fI l).bind fun ks=>if ks.length < 64 then some (.lst ((iQ ks).map gy)) else none
 | [.tup l]=>(fI l).bind fun ks=>if ks.length < 64 then some (.lst ((iQ ks).map gy)) else none
 | _=>none
theorem mW (a b c:List Int) (h:bL a b=true) (k:bL b c=true):bL a c=true:=by
 unfold bL at *
 have h1:HT.aH b a=false:=by simpa using h
 have k1:HT.aH c b=false:=by simpa using k
 cases e:HT.aH c a with
 | false=>rfl
 | true=>
   rcases lv c b a e with z | z
   · rw [k1] at z; cases z
   · rw [h1] at z; cases z
theorem mX (a b:List Int):(bL a b || bL b a)=true:=by
 unfold bL
 cases e:HT.aH b a with
 | false=>rfl
 | true=>
   cases e2:HT.aH a b with
   | false=>rfl
   | true=>
     have:=gw a b a e2 e
     rw [eX] at this; cases this
theorem bY (ks:List (List Int)):(iQ ks).Perm ks:=List.mergeSort_perm _ _
theorem iR (ks:List (List Int)):(iQ ks).Pairwise fun a b=>bL a b=true:=List.pairwise_mergeSort mW mX _
theorem uy {ks ls:List (List Int)} (p:ls.Perm ks) (r:ls.Pairwise fun a b=>bL a b=true):ls=iQ ks:=by
 refine List.Perm.eq_of_pairwise (le:=fun a b=>bL a b=true) (fun a b _ _ h k=>?_) r (iR ks) (p.trans (bY ks).symm)
 unfold bL at h k
 exact gx a b (by simpa using k) (by simpa using h)
theorem oI (ks:List Int):(mV ks).Perm ks:=List.mergeSort_perm _ _
theorem oJ (ks:List Int):(mV ks).Pairwise (·<=·):=by
 have:=List.pairwise_mergeSort (le:=fun (a b:Int)=>decide (a<=b)) (fun a b c h k=>by simp at *; exact Int.le_trans h k) (fun a b=>by simp; lia) ks
 exact this.imp fun h=>by simpa using h
theorem uz {ks ls:List Int} (p:ls.Perm ks) (r:ls.Pairwise (·<=·)):ls=mV ks:=
 List.Perm.eq_of_pairwise (le:=fun (a b:Int)=>a<=b) (fun a b _ _ h k=>Int.le_antisymm h k) r (oJ ks) (p.trans (oI ks).symm)
theorem jw {ks:List (List Int)} {q:List Nat} (hq:q.length=ks.length) (h:zw ks q):(q.map fun i=>ks.getD i []).Pairwise fun a b=>bL a b=true:=by
 rw [List.pairwise_iff_getElem]
 intro i j hi hj hij
 simp only [Z2] at hi hj
 have:=h i j (by exact (Z38 hij)) (by exact Z15 hj (Nat.le_of_eq hq))
 rw [Z5 (l:=q),Z5 (l:=q),Z3 hi,Z3 hj] at this
 simp only [Option.getD_some] at this
 simp only [List.getElem_map,bL,this]
 rfl
theorem rj {ks:List (List Int)} {q:List Nat} (hq:q.Perm (List.range ks.length)):(q.map fun i=>ks.getD i []).Perm ks:=by
 have h1:=hq.map fun i=>ks.getD i []
 have h2:((List.range ks.length).map fun i=>ks.getD i [])=ks:=by
   apply List.ext_getElem?
   intro i
   rw [Z21]
   by_cases hi:i < ks.length
   · simp [hi]
   · simp [hi]
 rwa [h2] at h1
theorem jV {K:PySem.W.Frag} {H:Hp} {ok:Addr->Prop} {p:Addr} {xs:List V} {ks:List (List Int)} {Q:VK} (sq0:SqL K H p xs∨SqT K H p xs) (rp:RepPL K H ok (ks.map gy) xs) (hne:∀ k ∈ ks,k ≠ []) (h64:ks.length < 64)
   (k:∀ v H',Same H H'->RepP K H' (fun a=>ok a∨H a=none) (.lst ((iQ ks).map gy)) v->Q v H'):uv K [.ref p] H Q:=by
 have hln:=rp.length
 rw [Z2] at hln
 have each:∀ (i:Nat) (y:V),xs[i]?=some y->∃ b n ns,y=.ref b/\ks[i]?=some (n::ns)/\SqT K H b ((n::ns).map V.int)/\RepP K H ok (gy (n::ns)) y:=by
   intro i y hy
   have hi:i < ks.length:=by rw [<- hln]; exact (Z9.mp hy).1
   have hk:ks[i]?=some ks[i]:=Z3 hi
   obtain ⟨y',hy',ry⟩:=rp.get (i:=i) (d:=gy ks[i]) (by rw [Z21,hk]; rfl)
   rw [hy] at hy'; cases hy'
   have nk:=hne _ (List.getElem_mem hi)
   generalize ks[i]=kk at ry nk hk
   have ry':=ry
   unfold gy at ry
   rw [RepP] at ry
   obtain ⟨b,zs,rfl,sq,rz⟩:=ry
   rw [eW rz] at sq
   cases kk with
   | nil=>exact absurd rfl nk
   | cons n ns=>exact ⟨b,n,ns,rfl,hk,sq,ry'⟩
 refine ⟨p,xs,ks,rfl,sq0,by exact Nat.lt_of_le_of_lt (Nat.le_of_eq hln) h64,⟨hln.symm,fun i y hy=>let ⟨b,n,ns,a1,a2,a3,_⟩:=each i y hy; ⟨b,n,ns,a1,a2,a3⟩⟩,fun q q1 q2 l hl=>?_⟩
 have s:=aA (o:=.lst (q.map fun i=>xs.getD i .non)) hl
 refine k _ _ s ?_
 rw [hln] at q1
 have ql:q.length=ks.length:=by have:=q1.length_eq; simpa using this
 rw [<- uy (rj q1) (jw ql q2),RepP]
 refine ⟨l,_,rfl,ar,.inr hl,RepPL.same (ok:=fun a=>ok a∨H a=none) ?_ s⟩
 have all:∀ q:List Nat,(∀ i ∈ q,i < ks.length)->RepPL K H (fun a=>ok a∨H a=none) ((q.map fun i=>ks.getD i []).map gy) (q.map fun i=>xs.getD i .non):=by
   intro q
   induction q with
   | nil=>intro _; exact .nil
   | cons i q ih=>
     intro hq
     have hi:i < ks.length:=hq i (by simp)
     obtain ⟨b,n,ns,a1,a2,a3,a4⟩:=each i xs[i] (Z3 (by omega))
     refine .cons ?_ (ih fun j hj=>hq j (by simp [hj]))
     dsimp only
     rw [Z5,Z5,a2,Z3 (by omega)]
     exact a4.mono fun a xs o _=>.inl o
 exact all q fun i hi=>by have:=q1.mem_iff.mp hi; simpa using this
theorem cb_sort {K:PySem.W.Frag}:CbA K (ux K) gO:=by
 intro H ok vs ds u Q h g k
 cases ds with
 | cons y3 y4=>
   cases y3 with
   | lst l=>
     cases y4 with
     | nil=>
       obtain ⟨v,rfl,h1⟩:=h.one_inv
       obtain ⟨p,xs,rfl,hp,rp⟩:=h1.lst_inv
       unfold gO at g
       simp only at g
       cases e:dw l with
       | some ns=>
         rw [e] at g
         simp only at g
         split at g
         · cases g
           rw [gf e] at rp
           refine .inr ⟨p,ns,rfl,.inl (.inl (by rw [<- eW rp]; exact hp)),by assumption,fun ms m1 m2 l hl=>?_⟩
           have s:=aA (o:=.lst (ms.map V.int)) hl
           refine k _ _ s ?_
           rw [<- uz m1 m2,RepP]
           refine ⟨l,_,rfl,ar,.inr hl,?_⟩
           have all:∀ ms:List Int,RepPL K (upd H l (.lst (ms.map V.int))) (fun a=>ok a∨H a=none) (ms.map D.int) (ms.map V.int):=by
             intro ms
             generalize upd H l (.lst (ms.map V.int))=H'
             induction ms with
             | nil=>exact .nil
             | cons m ms ih=>exact .cons (by rw [RepP]) ih
           exact all ms
         · cases g
       | none=>
         rw [e] at g
         simp only [Z0] at g
         obtain ⟨ks,e2,g⟩:=g
         split at g
         · rename_i h64
           cases g
           obtain ⟨el,hne⟩:=gz e2
           subst el
           exact .inl (jV (.inl (.inl (.inl hp))) rp hne h64 k)
         · cases g
     | _=>cases g
   | tup l=>
     cases y4 with
     | nil=>
       obtain ⟨v,rfl,h1⟩:=h.one_inv
       obtain ⟨p,xs,rfl,hp,rp⟩:=h1.tup_inv
       unfold gO at g
       simp only [Z0] at g
       obtain ⟨ks,e2,g⟩:=g
       split at g
       · rename_i h64
         cases g
         obtain ⟨el,hne⟩:=gz e2
         subst el
         exact .inl (jV (.inr hp) rp hne h64 k)
       · cases g
     | _=>cases g
   | _=>cases g
 | _=>cases g
end Srt
namespace Mir
open PySem L2
noncomputable def kill:List Nat->En->En
 | [],ρ=>ρ
 | k::ks,ρ=>kill ks (ρ.set k none)
noncomputable def ao (ks:List Nat) (f:MS):MS:=fun ρ=>(f ρ).bind fun x=>some (x.1,kill ks x.2)
section
variable {C:Cn} {md:List Md} {A W:Addr->Prop} {ρ:En} {σ:L2.St} {H:Hp}
theorem bR {ρ:En} {i j:Nat} {s:S} (h:look (ρ.set i none) j=some s):look ρ j=some s:=by
 by_cases e:i=j
 · subst e
   by_cases hl:i < ρ.length
   · rw [aV hl] at h; cases h
   · rw [List.set_eq_of_length_le (by lia)] at h; exact h
 · rwa [ay e] at h
theorem R.none1 (r:R C md A W ρ σ H) (i:Nat):R C md A W (ρ.set i none) σ H:=
 ⟨by rw [Z32]; exact r.len,r.wa,r.ak,r.base,r.wf,r.ma,r.fo,fun j s h=>r.slot j s (bR h),fun j k s s' a n m1 m2 e1 e2=>r.inj j k s s' a n m1 m2 (bR e1) (bR e2)⟩
theorem R.kill:∀ (ks:List Nat) {ρ:En},R C md A W ρ σ H->R C md A W (Mir.kill ks ρ) σ H
 | [],ρ,r=>r
 | k::ks,ρ,r=>R.kill ks (r.none1 k)
theorem xo {t:TS} {f:MS} {ks:List Nat} (h:LS C md t f):LS C md t (ao ks f):=by
 intro A W ρ σ H D fl ρ' r e k
 unfold ao at e
 simp only [Z0] at e
 obtain ⟨⟨fl1,ρ1⟩,e1,e2⟩:=e
 cases e2
 refine h A W ρ σ H D fl1 ρ1 r e1 ?_
 dsimp only at k
 cases fl1 with
 | nx=>exact fun A' W' σ' H' g r' f'=>k A' W' σ' H' g (r'.kill ks) f'
 | brk=>exact fun A' W' σ' H' g r' f'=>k A' W' σ' H' g (r'.kill ks) f'
 | ct=>exact fun A' W' σ' H' g r' f'=>k A' W' σ' H' g (r'.kill ks) f'
 | ret s=>exact fun A' W' σ' v H' g r' f' z=>k A' W' σ' v H' g (r'.kill ks) f' z
end
end Mir
namespace Mir
open PySem PySem.Spec PyProof.Rows L2
noncomputable def da:List D->Option (List Key)
 | []=>some []
 | .int i::r=>(da r).map (.inl i::·)
 | .str x::r=>(da r).map (.inr x::·)
 | _=>none
noncomputable def aM {κ:Type} [DecidableEq κ]:List (κ × D)->κ->Option D
 | [],_=>none
 | (k',d)::r,k=>if k'=k then some d else aM r k
noncomputable def gV {κ:Type} [DecidableEq κ] (kvs:List (κ × D)) (k:κ) (d:D):List (κ × D):=if (aM kvs k).isSome=true then kvs.map (fun kv=>if kv.1=k then (kv.1,d) else kv) else kvs++[(k,d)]
noncomputable def dcS:Option S->Option (List (List Key × D))
 | some (.dc kvs)=>some kvs
 | _=>none
theorem dC {o:Option S} {kvs:List (List Key × D)} (h:dcS o=some kvs):o=some (.dc kvs):=by
 cases o with
 | some y2=>
   cases y2 with
   | dc l=>
     cases h; rfl
   | _=>cases h
 | _=>cases h
noncomputable def uA:D->Option (List D)
 | .tup l=>some l
 | _=>none
theorem jW {d:D} {l:List D} (h:uA d=some l):d=.tup l:=by
 cases d with
 | tup l=>
   cases h; rfl
 | _=>cases h
section
variable {K:PySem.W.Frag} {H:Hp} {ok:Addr->Prop}
theorem eA:∀ {l:List D} {k:List Key} {xs:List V},da l=some k->RepPL K H ok l xs->xs=k.map kV
 | [],k,xs,e,r=>by cases e; rw [r.nil_inv]; rfl
 | .int i::l,k,xs,e,r=>by
   replace e:(da l).map (Sum.inl i::·)=some k:=e
   cases e1:da l with
   | none=>rw [e1] at e; cases e
   | some k'=>
     rw [e1] at e; cases e
     obtain ⟨x,t,rfl,h1,h2⟩:=r.cons_inv
     rw [RepP] at h1
     rw [eA e1 h2,h1]; rfl
 | .str i::l,k,xs,e,r=>by
   replace e:(da l).map (Sum.inr i::·)=some k:=e
   cases e1:da l with
   | none=>rw [e1] at e; cases e
   | some k'=>
     rw [e1] at e; cases e
     obtain ⟨x,t,rfl,h1,h2⟩:=r.cons_inv
     rw [RepP] at h1
     rw [eA e1 h2,h1]; rfl
 | .non::l,k,xs,e,r=>by cases e
 | .bl _::l,k,xs,e,r=>by cases e
 | .tup _::l,k,xs,e,r=>by cases e
 | .lst _::l,k,xs,e,r=>by cases e
section
variable {κ:Type} [DecidableEq κ]
theorem RepKV.cons_inv {k:κ} {d:D} {r:List (κ × D)} {ws:List (κ × V)} (h:RepKV K H ok ((k,d)::r) ws):∃ v t,ws=(k,v)::t/\RepP K H ok d v/\RepKV K H ok r t:=by
 obtain ⟨h1,h2⟩:=h
 cases ws with
 | nil=>simp at h1
 | cons w t=>
   rw [Z6,Z6] at h1 h2
   injection h1 with a1 a2
   obtain ⟨x,y,e,p1,p2⟩:=h2.cons_inv
   injection e with e1 e2
   obtain ⟨wk,wv⟩:=w
   dsimp only at a1 e1
   subst a1; subst e1
   exact ⟨wv,t,rfl,p1,a2,by rw [e2]; exact p2⟩
theorem RepKV.nil_inv {ws:List (κ × V)} (h:RepKV K H ok [] ws):ws=[]:=by
 have:=h.1
 cases ws with
 | nil=>rfl
 | cons w t=>simp at this
theorem RepKV.cons {k:κ} {d:D} {v:V} {r:List (κ × D)} {ws:List (κ × V)} (h:RepP K H ok d v) (t:RepKV K H ok r ws):RepKV K H ok ((k,d)::r) ((k,v)::ws):=
 ⟨by rw [Z6,Z6,t.1],.cons h t.2⟩
theorem RepKV.nil:RepKV (κ:=κ) K H ok [] []:=⟨rfl,.nil⟩
theorem RepKV.length {kvs:List (κ × D)} {ws:List (κ × V)} (h:RepKV K H ok kvs ws):ws.length=kvs.length:=by
 have:=congrArg List.length h.1
 simpa using this
theorem iS:∀ {kvs:List (κ × D)} {ws:List (κ × V)} (k:κ),RepKV K H ok kvs ws->(∀ d,aM kvs k=some d->∃ v,eR ws k=some v/\RepP K H ok d v)/\(aM kvs k=none->eR ws k=none)
 | [],ws,k,h=>by rw [h.nil_inv]; exact ⟨fun d e=>(by cases e),fun _=>rfl⟩
 | (k',d)::r,ws,k,h=>by
   obtain ⟨v,t,rfl,h1,h2⟩:=h.cons_inv
   unfold aM
   by_cases e:k'=k
   · rw [if_pos e,fA e]
     exact ⟨fun d' e'=>by cases e'; exact ⟨v,rfl,h1⟩,fun e'=>by cases e'⟩
   · rw [if_neg e,fB e]
     exact iS k h2
theorem RepKV.map {k:κ} {d:D} {v:V} (hv:RepP K H ok d v):∀ {kvs:List (κ × D)} {ws:List (κ × V)},RepKV K H ok kvs ws ->
   RepKV K H ok (kvs.map fun kv=>if kv.1=k then (kv.1,d) else kv) (ws.map fun kv=>if kv.1=k then (kv.1,v) else kv)
 | [],ws,h=>by rw [h.nil_inv]; exact .nil
 | (k',d')::r,ws,h=>by
   obtain ⟨v',t,rfl,h1,h2⟩:=h.cons_inv
   rw [Z6,Z6]
   by_cases e:k'=k
   · simp only [if_pos e]; exact .cons hv (RepKV.map hv h2)
   · simp only [if_neg e]; exact .cons h1 (RepKV.map hv h2)
theorem RepKV.snoc {k:κ} {d:D} {v:V} (hv:RepP K H ok d v):∀ {kvs:List (κ × D)} {ws:List (κ × V)},RepKV K H ok kvs ws->RepKV K H ok (kvs++[(k,d)]) (ws++[(k,v)])
 | [],ws,h=>by rw [h.nil_inv]; exact .cons hv .nil
 | (k',d')::r,ws,h=>by
   obtain ⟨v',t,rfl,h1,h2⟩:=h.cons_inv
   exact .cons h1 (RepKV.snoc hv h2)
theorem RepKV.put {k:κ} {d:D} {v:V} {kvs:List (κ × D)} {ws:List (κ × V)} (h:RepKV K H ok kvs ws) (hv:RepP K H ok d v):RepKV K H ok (gV kvs k d) (db ws k v):=by
 obtain ⟨a1,a2⟩:=iS k h
 unfold gV db
 have e:(ws.any fun kv=>decide (kv.1=k))=(aM kvs k).isSome:=by
   rw [iw]
   cases e:aM kvs k with
   | none=>rw [a2 e]; rfl
   | some d'=>obtain ⟨v',e',_⟩:=a1 d' e; rw [e']; rfl
 rw [e]
 split
 · exact RepKV.map hv h
 · exact RepKV.snoc hv h
end
end
section
variable {C:Cn} {md:List Md} {fx:Nat->Prop}
theorem R.dict {A W:Addr->Prop} {ρ:En} {σ:L2.St} {H:Hp} {i:Nat} {kvs:List (List Key × D)} {w:V} (r:R C md A W ρ σ H) (e:look ρ i=some (.dc kvs)) (ew:σ[i]?=some (some w)) :
   ∃ a ws,w=.ref a/\H a=some (.dT ws)/\RepKV C.K H (fun b=>¬ A b) kvs ws:=by
 obtain ⟨v,ev,c⟩:=r.slot i _ e
 rw [ew] at ev; cases ev
 cases em:aj md i with
 | pl=>rw [em] at c; obtain ⟨a,ws,z,c1,c2,c3⟩:=c; exact ⟨a,ws,z,c1,c3⟩
 | ow=>rw [em] at c; obtain ⟨a,ws,z,c1,c2,c3,c4⟩:=c; exact ⟨a,ws,z,c1,c4⟩
 | lk=>rw [em] at c; obtain ⟨a,ws,z,c1,c2,c3,c4⟩:=c; exact ⟨a,ws,z,c1,c4⟩
 | io=>rw [em] at c; obtain ⟨a,ws,z,c1,c2,c3,c4⟩:=c; exact ⟨a,ws,z,c1,c4⟩
theorem xp {K:PySem.W.Frag}:OpA K (jq K) ixD:=fun H ok x y d e u Q h1 h2 g k=>.inl (Da H ok x y d e u Q h1 h2 g k)
noncomputable def iT (i:Nat) (f:ME):ME:=fun ρ=>(dcS (look ρ i)).bind fun _=>(f ρ).bind fun x=>(res x.2 x.1).bind fun d=>(uA d).bind fun l=>(da l).bind fun k=>(dcS (look x.2 i)).bind fun kvs=>(aM kvs k).bind fun u=>some (.val u,x.2)
theorem xq {i:Nat} {t:TE} {f:ME} (h:LE C md t f):LE C md (tOp (jq C.K) (aU i) t) (iT i f):=by
 intro A W ρ σ H Q o ρ' r e k
 unfold iT at e
 simp only [Z0] at e
 obtain ⟨kvs0,e0,⟨o1,ρ1⟩,e1,d,e2,l,e3,key,e4,kvs,e5,u,e6,e7⟩:=e
 cases e7
 cases jW e3
 obtain ⟨v,ev,_⟩:=r.slot i _ (dC e0)
 refine ⟨v,ev,h A W ρ σ H _ o1 _ r e1 fun v1 H1 x1 r1 p1=>.inr (.inl ?_)⟩
 obtain ⟨a,ws,rfl,c1,c2⟩:=r1.dict (dC e5) ev
 obtain ⟨b,xs,rfl,q1,q2⟩:=(p1.get r1 e2).tup_inv
 rw [eA e4 q2] at q1
 obtain ⟨v',w1,w2⟩:=(iS key c2).1 u e6
 exact ⟨a,b,ws,key,v',rfl,rfl,c1,q1,w1,k v' H1 x1 r1 w2⟩
theorem xr {i:Nat} {t:TE} {f:ME} (hm:aj md i=.pl) (h:LE C md t f):LE C md (tOp (jq C.K) (aU i) t) (ui i f):=by
 intro A W ρ σ H Q o ρ' r e k
 unfold ui at e
 simp only [Z0] at e
 obtain ⟨ns0,e0,⟨o1,ρ1⟩,e1,d,e2,j,e3,ns,e4,n,e5,e6⟩:=e
 cases e6
 cases fG e3
 obtain ⟨v,ev,_⟩:=r.slot i _ (gp e0)
 refine ⟨v,ev,h A W ρ σ H _ o1 _ r e1 fun v1 H1 x1 r1 p1=>.inl ?_⟩
 obtain ⟨v',ev',c⟩:=r1.slot i _ (gp e4)
 rw [ev] at ev'; cases ev'
 rw [hm] at c
 obtain ⟨a,rfl,c⟩:=c
 obtain rfl:=(p1.get r1 e2).int_inv
 exact ⟨_,_,.inl c.sq,uj e5,k _ H1 x1 r1 (show RepP _ _ _ _ _ from az)⟩
end
section
variable {C:Cn} {md:List Md} {fx:Nat->Prop}
theorem xt {x:Nat} {ti:TE} {fi:ME} (hm:aj md x=.ow∨aj md x=.io) (hi:LE C md ti fi):LG C md fx (kK (aU x) ti iF) (cD md x fi):=by
 intro A W ρ σ H v d ρ' Q r p e k
 unfold cD at e
 simp -iota only [Z0] at e
 obtain ⟨s0,e0,⟨o,ρ1⟩,e1,i,e2,s,e3,e4⟩:=e
 cases e4
 obtain ⟨l,kk,j,f1,rfl,f2,rfl⟩:=qS e3
 obtain ⟨w,hw,_⟩:=r.slot x s0 e0
 refine ⟨w,hw,?_⟩
 refine hi A W ρ σ H _ o ρ1 r e1 fun v1 H1 x1 r1 p1=>.inl ?_
 obtain ⟨w',hw',h1⟩:=r1.slot x _ f1
 rw [hw] at hw'; cases hw'
 obtain ⟨a,xs,rfl,g1,g2⟩:∃ a xs,w=.ref a/\H1 a=some (.lst xs)/\RepPL C.K H1 (fun b=>¬ A b) l xs:=by
   rcases hm with hm | hm <;> (rw [hm] at h1; obtain ⟨a,xs,q1,q2,q3,q4,q5⟩:=h1; exact ⟨a,xs,q1,q2,q5⟩)
 obtain rfl:=(p1.get r1 e2).int_inv
 refine ⟨a,xs,kk,j,rfl,rfl,g1,by rw [g2.length]; exact f2,?_⟩
 obtain ⟨H2,e5,b2,h2⟩:=My.iC H1 a (.lst (xs.set j v))
 rw [e5]
 have pv:=r.stayP x1 p
 obtain ⟨x2,r2⟩:=r1.write hm f1 rfl rfl hw b2 (.inl ⟨_,h2⟩) (s':=.d (.lst (l.set j d))) fun ok okq oa aa wa st c=>by
   obtain ⟨a',xs',q1,q2,q3,q4,q5⟩:=c
   cases q1
   rw [g1] at q2; cases q2
   refine ⟨a,_,rfl,h2,aa,oa,?_⟩
   have:=(q5.set j pv)
   exact r1.stayPL (fun c o nc h=>b2 c o (fun z=>nc (by rw [z]; exact wa)) h) this
 exact k σ H2 (x1.trans x2) r2 (Fix.refl _ _)
noncomputable def iU (md:List Md) (x:Nat) (fa:MA):MG:=fun d ρ=>(dcS (look ρ x)).bind fun _=>(fa ρ).bind fun y=>(stos md y.2 y.1).bind fun ds=>(da ds).bind fun k=>(dcS (look y.2 x)).bind fun kvs=>
 if ds.length<=sizeLine/\kvs.length < sizeLine then some (y.2.set x (some (.dc (gV kvs k d)))) else none
theorem xu {x:Nat} {t:TA} {fa:MA} (hm:aj md x=.ow∨aj md x=.io) (h:LA C md t fa):LG C md fx (kK (aU x) (vT t) iF) (iU md x fa):=by
 intro A W ρ σ H v d ρ' Q r p e k
 unfold iU at e
 simp -iota only [Z0] at e
 obtain ⟨kvs0,e0,⟨os,ρ1⟩,e1,ds,e2,key,e3,kvs,e4,e5⟩:=e
 split at e5
 · rename_i hz
   cases e5
   obtain ⟨w,hw,_⟩:=r.slot x _ (dC e0)
   refine ⟨w,hw,?_⟩
   refine h A W ρ σ H _ os ρ1 r e1 fun vs H1 x1 r1 p1=>?_
   have q:=p1.stos r1 e2
   refine ⟨by rw [q.length]; exact hz.1,fun pa hp=>.inr (.inl ?_)⟩
   have s:=aA (o:=.tup vs) hp
   have r2:=r1.same s
   obtain ⟨a,ws,rfl,c1,c2⟩:=r2.dict (dC e4) hw
   have ek:=eA e3 q
   subst ek
   refine ⟨a,pa,ws,key,rfl,rfl,c1,ar,by rw [c2.length]; exact hz.2,?_⟩
   have pv:RepP C.K (upd H1 pa (.tup (key.map kV))) (fun b=>¬ A b) d v:=(r.stayP x1 p).same s
   generalize upd H1 pa (.tup (key.map kV))=H2 at *
   obtain ⟨H3,e6,b3,h3⟩:=My.iC H2 a (.dT (db ws key v))
   rw [e6]
   obtain ⟨x2,r3⟩:=r2.write hm (dC e4) rfl rfl hw b3 (.inr (.inl ⟨_,h3⟩)) (s':=.dc (gV kvs key d)) fun ok okq oa aa wa st c=>by
     obtain ⟨a',ws',q1,q2,q3,q4,q5⟩:=c
     cases q1
     rw [c1] at q2; cases q2
     have pt:=RepKV.put (k:=key) q5 pv
     exact ⟨a,_,rfl,h3,aa,oa,pt.1,r2.stayPL (fun c o nc h=>b3 c o (fun z=>nc (by rw [z]; exact wa)) h) pt.2⟩
   exact k σ H3 ((x1.trans (Same.ext s)).trans x2) r3 (Fix.refl _ _)
 · cases e5
noncomputable def oK:MN:=fun ρ=>some (.dc [],ρ)
theorem xx:LN C md ol oK:=by
 intro A W ρ σ H Q s ρ' r e k
 cases e
 refine .inl ?_
 intro p hp
 exact k p H _ (Ext.refl _ _) r hp (aA hp) ⟨[],ar,.nil⟩
end
variable {C:Cn} {md:List Md}
noncomputable def xy (m:Md) (s:Option S):Option D:=match m,s with
 | .ow,some (.d (.lst l))=>if D.immL l=true then some (.lst l) else none
 | _,s=>cp (unD s)
noncomputable def stoN (md:List Md) (ρ:En):Op->Option D
 | .val d=>cp (some d)
 | .var i=>xy (aj md i) (look ρ i)
noncomputable def stosN (md:List Md) (ρ:En):List Op->Option (List D)
 | []=>some []
 | o::os=>(stoN md ρ o).bind fun d=>(stosN md ρ os).bind fun ds=>some (d::ds)
theorem OpAt.stoN {A W:Addr->Prop} {ρ:En} {σ:L2.St} {H:Hp} {o:Op} {v:V} {d:D} (r:R C md A W ρ σ H) (h:OpAt C A σ H o v) (e:stoN md ρ o=some d):RepP C.K H (fun a=>C.H0 a=none) d v:=by
 have imm:∀ {d':D},cp (res ρ o)=some d'->RepP C.K H (fun a=>C.H0 a=none) d' v:=by
   intro d' e'
   obtain ⟨e1,hi⟩:=jN e'
   exact RepP.ofImm hi (h.get r e1).rep
 cases o with
 | val d'=>exact imm e
 | var i=>
   replace e:xy (aj md i) (look ρ i)=some d:=e
   unfold xy at e
   split at e
   · rename_i l hm hl
     split at e
     · cases e
       rename_i hi
       obtain ⟨w,ew,h1⟩:=r.slot i _ hl
       have:some (some v)=some (some w):=(show σ[i]?=some (some v) from h).symm.trans ew
       cases this
       rw [hm] at h1
       obtain ⟨a,xs,rfl,q2,q3,q4,q5⟩:=h1
       rw [RepP]
       exact ⟨a,xs,rfl,q2,q4.2,RepPL.ofImm hi q5.repL⟩
     · cases e
   · exact imm e
theorem OpsAt.stosN {A W:Addr->Prop} {ρ:En} {σ:L2.St} {H:Hp} (r:R C md A W ρ σ H):∀ {os:List Op} {vs:List V} {ds:List D},OpsAt C A σ H os vs->stosN md ρ os=some ds->RepPL C.K H (fun a=>C.H0 a=none) ds vs
 | [],vs,ds,h,e=>by cases e; rw [show vs=[] from h]; exact .nil
 | o::os,vs,ds,h,e=>by
   obtain ⟨v,t,rfl,h1,h2⟩:=h
   unfold Mir.stosN at e
   simp only [Z0] at e
   obtain ⟨d,e1,ds',e2,e3⟩:=e
   cases e3
   exact .cons (h1.stoN r e1) (OpsAt.stosN r h2 e2)
noncomputable def mY (md:List Md) (f:MA):MS:=fun ρ=>(f ρ).bind fun x=>(stosN md x.2 x.1).bind fun ds=>if ds.length<=sizeLine then some (.ret (.d (.tup ds)),x.2) else none
theorem xz {t:TA} {f:MA} (h:LA C md t f):LS C md (nK (vT t)) (mY md f):=by
 intro A W ρ σ H D fl ρ' r e k
 unfold mY at e
 simp only [Z0] at e
 obtain ⟨⟨os,ρ1⟩,e1,ds,e2,e3⟩:=e
 split at e3
 · cases e3
   rename_i hz
   refine h A W ρ σ H _ os _ r e1 fun vs H1 x1 r1 p1=>?_
   have q:=p1.stosN r1 e2
   refine ⟨by rw [q.length]; exact hz,fun p hp=>?_⟩
   have s:=aA (o:=.tup vs) hp
   refine k A W σ _ _ (Gr.ofExt (x1.trans (Same.ext s))) (r1.same s) (Fix.refl _ _) (.inl ?_)
   show RepP _ _ _ (.tup ds) _
   rw [RepP]
   exact ⟨p,vs,rfl,ar,q.same s⟩
 · cases e3
end Mir
namespace L2
open PySem PySem.Spec PyProof.Rows HT
open AutoSeq1 (wpAny_loadPart')
open MeetsSeq MeetsSeq2 MeetsSeq3 SeqAt
theorem cr {items:Array Value} {i:Nat} (h:IntsAre (items.toList.drop i) []) (hi:i<=items.size):items[((i:Nat):Int).toNat]?=none/\items.size=i:=by
 have:items.toList.drop i=[]:=by cases h':items.toList.drop i with | nil=>rfl | cons a l=>rw [h'] at h; cases h
 have hl:items.toList.length<=i:=List.drop_eq_nil_iff.mp this
 have:items.size<=i:=by simpa using hl
 exact ⟨by simp; exact this,by lia⟩
theorem bZ {items:Array Value} {i:Nat} {x:Int} {ns:List Int} (h:IntsAre (items.toList.drop i) (x::ns)):∃ t,items[((i:Nat):Int).toNat]?=some (.int x t)/\i < items.size/\IntsAre (items.toList.drop (i+1)) ns:=by
 have hlt:i < items.toList.length:=by
   rcases Nat.lt_or_ge i items.toList.length with h' | h'
   · exact h'
   · rw [List.drop_of_length_le h'] at h; cases h
 rw [List.drop_eq_getElem_cons hlt] at h
 generalize hv:items.toList[i]=v at h
 cases h with
 | cons a t h'=>
   refine ⟨t,?_,by simpa using hlt,h'⟩
   have:items.toList[i]?=some (.int x t):=by rw [Z3 hlt,hv]
   simpa using this
theorem xA (l b:Addr) (items items2:Array Value) (n n2:Nat) (dd dd2:Option Addr) (sl sl2:Array (Option Value)) :
   ∀ (ns ms:List Int) (i:Nat),i<=items.size->i<=items2.size->IntsAre (items.toList.drop i) ns->IntsAre (items2.toList.drop i) ms ->
     Meets (Builtin.«list.__eq__.loop» ⟨[.ref l,.ref b,rawInt i,rawInt 0],[]⟩)
       (fun A R s=>s.heap.get? l=some { cls:=.type "list",dict:=dd,data:=.seq items n,slots:=sl }/\s.heap.get? b=some { cls:=.type "list",dict:=dd2,data:=.seq items2 n2,slots:=sl2 } /\
         R (.ok (.ret (.bool (aH ns ms)))) s):=by
 intro ns
 induction ns with
 | nil=>
   intro ms i h1 h2 hi hj prog w A R s h
   obtain ⟨hp,g,d,tk,os⟩:=s; obtain ⟨hl,hb,h⟩:=h
   obtain ⟨e1,s1⟩:=cr hi h1
   wp_walk using wpAny_loadPart' hl,wpAny_loadPart' hb
   rw [e1]
   wp_walk using wpAny_loadPart' hl,wpAny_loadPart' hb
   cases ms with
   | nil=>
     obtain ⟨e2,s2⟩:=cr hj h2
     show R (.ok (.ret (.bool (decide (items.size < items2.size))))) _
     rw [decide_eq_false (by grind)]
     exact h
   | cons y ms=>
     obtain ⟨t,e2,s2,_⟩:=bZ hj
     show R (.ok (.ret (.bool (decide (items.size < items2.size))))) _
     rw [decide_eq_true (by exact Nat.lt_of_le_of_lt (Nat.le_of_eq s1) s2)]
     exact h
 | cons x ns ih=>
   intro ms i h1 h2 hi hj prog w A R s h
   obtain ⟨hp,g,d,tk,os⟩:=s; obtain ⟨hl,hb,h⟩:=h
   obtain ⟨t,e1,s1,hi'⟩:=bZ hi
   cases ms with
   | nil=>
     obtain ⟨e2,s2⟩:=cr hj h2
     wp_walk using wpAny_loadPart' hl,wpAny_loadPart' hb
     rw [e1,e2]
     wp_walk using wpAny_loadPart' hl,wpAny_loadPart' hb
     show R (.ok (.ret (.bool (decide (items.size < items2.size))))) _
     rw [decide_eq_false (by lia)]
     exact h
   | cons y ms=>
     obtain ⟨u,e2,s2,hj'⟩:=bZ hj
     wp_walk using wpAny_loadPart' hl,wpAny_loadPart' hb
     rw [e1,e2]
     have hc:((i:Int)+1)=((i+1:Nat):Int):=by push_cast; rfl
     rw [aP] at h
     obtain ⟨e,he,hiff⟩:=sH A.in1 ⟨hp,g,d,tk,os⟩ x t y u
     refine Z55 (he prog w _ _ ?_)
     cases e with
     | true=>
       rw [if_pos (hiff.mp rfl)] at h
       wp_walk
       rw [hc]
       exact ⟨plainId_quiet plain_eq_loop _,codeAny_builtin entry_eq_loop (by
         rw [Around.under_plainId plain_eq_loop _]
         exact ih ms (i+1) (by exact Nat.succ_le_of_lt s1) (by exact Nat.succ_le_of_lt s2) hi' hj' prog w A R _ ⟨hl,hb,h⟩)⟩
     | false=>
       rw [if_neg (fun q=>absurd (hiff.mpr q) Z28)] at h
       wp_walk using wpAny_loadPart' hl,wpAny_loadPart' hb
       rw [e1,e2]
       have hri:=sI A.in1 ⟨hp,g,d,tk,os⟩ x t y u prog w
       wp_walk using hri
       simpa using h
theorem uB (l b:Addr) (items items2:Array Value) (n n2:Nat) (dd dd2:Option Addr) (sl sl2:Array (Option Value)) {ns ms:List Int} (hi:IntsAre items.toList ns) (hj:IntsAre items2.toList ms) :
   Meets (Builtin.«list.__lt__» ⟨[.ref l,.ref b],[]⟩)
     (fun A R s=>s.heap.get? l=some { cls:=.type "list",dict:=dd,data:=.seq items n,slots:=sl }/\s.heap.get? b=some { cls:=.type "list",dict:=dd2,data:=.seq items2 n2,slots:=sl2 } /\
       R (.ok (.ret (.bool (aH ns ms)))) s):=by
 intro prog w A R s h
 obtain ⟨hp,g,d,tk,os⟩:=s; obtain ⟨hl,hb,h⟩:=h
 have f3:=AutoSeq1.sub_list_list
 wp_walk using wpAny_loadPart' hl,wpAny_loadPart' hb
 exact ⟨plainId_quiet plain_eq_loop _,codeAny_builtin entry_eq_loop (by
   rw [Around.under_plainId plain_eq_loop _]
   exact xA l b items items2 n n2 dd dd2 sl sl2 ns ms 0 (Z30 _) (Z30 _) hi hj prog w A R _ ⟨hl,hb,h⟩)⟩
section
variable {prog:Program} {w:World} {A:Around} {E:Value->Shared->Prop} {s:Shared}
theorem uC {l b:Addr} {items items2:Array Value} {ns ms:List Int} {Q:Value->Shared->Prop} (hl:s.heap.IsList l items) (hb:s.heap.IsList b items2) (hi:IntsAre items.toList ns) (hj:IntsAre items2.toList ms)
   (hu:A.units < cLine) (h:Q (.bool (aH ns ms)) s):wpAny (model prog w) A (compareOp .Lt (.ref l) (.ref b)) Q E s:=by
 obtain ⟨⟨cls,dd,data,sl⟩,ho,hc,n,hd⟩:=id hl
 obtain ⟨⟨cls2,dd2,data2,sl2⟩,ho2,hc2,n2,hd2⟩:=id hb
 simp only at hc hd hc2 hd2
 subst hc hd hc2 hd2
 exact richCompare_meets_room (op:=.Lt) ⟨_,ho,rfl⟩ ⟨_,ho2,rfl⟩ PySem.F.slot_list_lt PySem.F.entry_list_lt (PySem.F.args_list_lt_2 _ _) (uB l b items items2 n n2 dd dd2 sl sl2 hi hj)
   ⟨ho,ho2,show Value.bool (aH ns ms) ≠ Value.notImplemented/\Q (.bool (aH ns ms)) s from ⟨(fun x=>nomatch x),h⟩⟩ hu
end
end L2
namespace L2
open PySem PySem.Spec PyProof.Rows HT
section
variable {X:Cx}
noncomputable def Dk (K:PySem.W.Frag):R2:=fun x y H Q=>∃ a b ns ms,x=.ref a/\y=.ref b/\H a=some (.lst (ns.map V.int))/\H b=some (.lst (ms.map V.int))/\Q (.bl (HT.aH ns ms)) H
theorem Bx (hu:X.A.units < cLine):OpR X (compareOp .Lt) (Dk X.K):=by
 intro pins s σ H x y v u Q I rx ry h
 obtain ⟨a,b,ns,ms,rfl,rfl,ha,hb,q⟩:=h
 cases rx
 cases ry
 obtain ⟨its,r1,p1,_⟩:=I.list (.inl (.inl ha))
 obtain ⟨its2,r2,p2,_⟩:=I.list (.inl (.inl hb))
 have i1:IntsAre its.toArray.toList ns:=iu r1
 have i2:IntsAre its2.toArray.toList ms:=iu r2
 exact uC p1.isList p2.isList i1 i2 hu ⟨.bl (HT.aH ns ms),H,I,rfl,q⟩
noncomputable def Dl (K:PySem.W.Frag):R2:=fun x y H Q=>jI (fun i j=>decide (i < j)) ltC x y H Q∨Dk K x y H Q
theorem By {K:PySem.W.Frag} {n:Nat} (kt:KT K) (hu:X.A.units+n < cLine) (hK:X.K=K:=by rfl):OpR X (compareOp .Lt) (Dl K):=by
 subst hK
 intro pins s σ H x y v u Q I rx ry h
 rcases h with h | h
 · exact tH pins s σ H x y v u Q I rx ry h
 · exact Bx (by lia) pins s σ H x y v u Q I rx ry h
end
end L2
namespace Mir
open PySem PySem.Spec PyProof.Rows L2
section
variable {K:PySem.W.Frag}
theorem xB:OpA K (Dl K) ltD:=fun H ok x y d e u Q h1 h2 g k=>.inl (tW H ok x y d e u Q h1 h2 g k)
end
end Mir
namespace Mir
open PySem PySem.W PyProof.Rows L2
def als (p : Lean.Name) (s : String) : Lean.MacroM (Array (Lean.TSyntax `Lean.Parser.Tactic.tacticSeq)) := (s.splitOn " ").toArray.mapM fun n => `(tacticSeq| with_reducible apply $(Lean.mkIdent (p ++ Lean.Name.mkSimple n)))
def alz (s : String) : Lean.MacroM (Array (Lean.TSyntax `Lean.Parser.Tactic.tacticSeq)) := (s.splitOn " ").toArray.mapM fun n => `(tacticSeq| with_reducible exact $(Lean.mkIdent (`Mir ++ Lean.Name.mkSimple n)) (by walk_at "dz"))
section
open Lean
def wfl (a:List Char):List String:=if a.isEmpty then [] else [String.ofList a.reverse]
def wds:Nat->List Char->List Char->List String
 | _,[],a=>wfl a
 | 0,c::r,a=>if c == '<' then wfl a++wds 1 r ['<'] else if c == '\'' then wfl a++wds 2 r ['\''] else if c == ' ' then wfl a++wds 0 r [] else if "(){}[];".contains c then wfl a++c.toString::wds 0 r [] else wds 0 r (c::a)
 | m+1,c::r,a=>if (m == 0 && c == '>') || (m == 1 && c == '\'') then wfl a++wds 0 r [] else wds (m+1) r (c::a)
def nam (s:String):Name:=s.toName
def scp (s:String):MacroM Ident:=do return mkIdent (<- Macro.addMacroScope (.mkSimple s))
def pts:Nat->List String->Array Term->MacroM (Array Term × List String)
 | 0,ws,a=>return (a,ws)
 | _,[],a=>return (a,[])
 | k+1,w::ws,a=>do
   if w == ")" || w == "]" || w == "}" || w == ";" then return (a,ws)
   if w == "(" then
     let (xs,r) <- pts k ws #[]
     pts k r (a.push (if xs.size == 1 then xs[0]! else Syntax.mkApp xs[0]! (xs.extract 1 xs.size)))
   else if w == "[" then
     let (xs,r) <- pts k ws #[]
     pts k r (a.push (<- `([$xs,*])))
   else if w == "{" then
     let (xs,r) <- pts k ws #[]
     pts k r (a.push (<- `(⟨$xs,*⟩)))
   else if w.endsWith "=" then
     let (xs,r) <- pts k ws #[]
     let n:=mkIdent (nam (w.dropEnd 1).toString)
     pts k r (a.push ⟨(<- `(Parser.Term.namedArgument| ($n := $(xs[0]!)))).raw⟩)
   else do
     let t <- match w.toList with
       | ['_']=>`(_)
       | ['!']=>`((by assumption))
       | ['%']=>`((by decide))
       | ['\\']=>`((fun _ _=>rfl))
       | '<' :: c => `((by walk_at $(Syntax.mkStrLit (String.ofList c))))
       | '\''::c=>pure ⟨(Syntax.mkStrLit (String.ofList c)).raw⟩
       | ['?','_']=>`(?_)
       | '?' :: c => do `(?$(<- scp (String.ofList c)))
       | '.' :: c => `(.$(mkIdent (nam (String.ofList c))))
       | l=>if l.all Char.isDigit then pure (quote w.toNat!) else pure ⟨(mkIdent (nam w)).raw⟩
     pts k ws (a.push t)
def one (xs:Array Term):Term:=if xs.size == 1 then xs[0]! else Syntax.mkApp xs[0]! (xs.extract 1 xs.size)
def stp:Nat->List String->Array (TSyntax `tactic)->MacroM (Array (TSyntax `tactic))
 | 0,_,a=>return a
 | _,[],a=>return a
 | k+1,w::ws,a=>do
   if w == "W" then
     let s:=ws.takeWhile (· != ";")
     stp k (ws.drop (s.length + 1)) (a.push (<- `(tactic| walk_at $(Syntax.mkStrLit (" ".intercalate s)))))
   else if w == "C" then
     let s:=ws.takeWhile (· != ";")
     let n <- scp s.head!
     let t <- match s.tail! with
       | ["rfl"] => `(tactic| case $n:ident => rfl)
       | ["%"] => `(tactic| case $n:ident => decide)
       | ["!"] => `(tactic| case $n:ident => assumption)
       | ["I"] => `(tactic| case' $n:ident => intro C s2 H2 fp)
       | l => `(tactic| case $n:ident => walk_at $(Syntax.mkStrLit (" ".intercalate l)))
     stp k (ws.drop (s.length+1)) (a.push t)
   else if w == "S" then stp k (ws.drop 1) (a.push (<- `(tactic| with_reducible assumption)))
   else if w == "s" then stp k (ws.drop 1) (a.push (<- `(tactic| assumption)))
   else do
     let (xs,r) <- pts 1000 ws #[]
     let t:=one xs
     let c <- if w == "G" then `(tactic| with_reducible show $t) else if w == "R" then `(tactic| refine' $t) else if w == "E" then `(tactic| exact $t) else if w == "q" then `(tactic| with_reducible exact $t) else if w == "Q" then `(tactic| with_reducible refine' $t) else `(tactic| with_reducible apply $t)
     stp k r (a.push c)
def tx (l:List String):MacroM (TSyntax `tactic):=do
 let a <- l.toArray.mapM fun s=>do
   match wds 0 s.toList [] with
   | "T"::ws=>do
     let (xs,r) <- pts 1000 ws #[]
     let ts <- stp 100 r #[]
     `(tacticSeq| focus ((with_reducible show (_ : $(one xs)) = _); ($[$ts];*)))
   | ws=>do
     let ts <- stp 100 ws #[]
     `(tacticSeq| ($[$ts];*))
 `(tactic| first $[| $a]*)
def txn (k:Nat) (s:String):MacroM (TSyntax `tactic):=tx ((List.range k).map fun n=>(s.replace "@" (toString n)).replace "&" (toString (n / 12)) |>.replace "^" (toString (n % 12)))
end
noncomputable def setN (ns:List Int):Nat:=(firstMet (fun i=>ns.getD i 0) ns.length).length
noncomputable def sL (K:PySem.W.Frag) (xs:List V) (H:Hp) (Q:VK):Prop:=∃ a ns,xs=[.ref a]/\SqL K H a (ns.map V.int)/\ns.length < 1000 /\
 ∀ l S,H l=none->Q (.ref l) (upd H l (.set S (setN ns)))
end Mir
namespace My
open PySem
theorem bl0 {us:List Value} (hl:us.length=0):us=[]:=List.length_eq_zero_iff.mp hl
theorem blS {us:List Value} {n:Nat} (hl:us.length=n+1):∃ a vs,us=a::vs/\vs.length=n:=by
 cases us with
 | nil=>cases hl
 | cons a us=>exact ⟨a,us,rfl,Nat.succ.inj hl⟩
end My
namespace Mir
open PySem PySem.Spec PyProof.Rows L2
noncomputable def BitOk (i:Int):Prop:=i.natAbs.log2 < 1000000
instance {i:Int}:Decidable (BitOk i):=by unfold BitOk; infer_instance
theorem BitOk.bits {i:Int} (h:BitOk i):Builtin.Int.intBits i<=2 ^ 20:=by
 unfold BitOk at h
 unfold Builtin.Int.intBits
 have e:(2:Nat) ^ 20=1048576:=by decide
 split <;> lia
noncomputable def zy:R2:=fun x y H Q=>match x,y with
 | .int i,.int j=>(BitOk i/\BitOk j)/\Q (.int (i * j)) H
 | _,_=>False
noncomputable def zz:R2:=fun x y H Q=>match x,y with
 | .int i,.int j=>(j ≠ 0/\j.natAbs.log2 < 9000)/\Q (.int (i.fdiv j)) H
 | _,_=>False
noncomputable def Dm:R2:=fun x y H Q=>AE x y H Q∨∃ a b,x=.bl a/\y=.bl b/\Q (.bl (a == b)) H
noncomputable def zA:R2:=fun x y H Q=>tJ x y H Q∨∃ a b,x=.bl a/\y=.bl b/\Q (.bl (!(a == b))) H
section
variable {X:Cx}
theorem uD:OpR X (binaryOp .Mult) zy:=by
 intro pins s σ H x y v u Q I rx ry h
 match x,y,h with
 | .int i,.int j,⟨⟨h1,h2⟩,q⟩=>
   obtain ⟨t,rfl⟩:=rx
   obtain ⟨t',rfl⟩:=ry
   exact mul_int ⟨.int _,H,I.tok _,⟨_,rfl⟩,q⟩ (IntMulOk.of_bits h1.bits h2.bits)
theorem uE:OpR X (binaryOp .FloorDiv) zz:=by
 intro pins s σ H x y v u Q I rx ry h
 match x,y,h with
 | .int i,.int j,⟨⟨h1,h2⟩,q⟩=>
   obtain ⟨t,rfl⟩:=rx
   obtain ⟨t',rfl⟩:=ry
   exact floordiv_int h1 ⟨.int _,H,I.tok _,⟨_,rfl⟩,q⟩ (.inl (PyProof.noPylong_of_log2 h2))
theorem xC:OpR X (compareOp .Is) Dm:=by
 intro pins s σ H x y v u Q I rx ry h
 rcases h with h | ⟨a,b,rfl,rfl,q⟩
 · exact pF pins s σ H x y v u Q I rx ry h
 · cases rx; cases ry
   refine wpAny_is_plain rfl ⟨.bl _,H,I,?_,q⟩
   cases a <;> cases b <;> rfl
theorem uF:OpR X (compareOp .IsNot) zA:=by
 intro pins s σ H x y v u Q I rx ry h
 rcases h with h | ⟨a,b,rfl,rfl,q⟩
 · exact mv pins s σ H x y v u Q I rx ry h
 · cases rx; cases ry
   refine wpAny_isNot_plain rfl ⟨.bl _,H,I,?_,q⟩
   cases a <;> cases b <;> rfl
end
noncomputable def eL:D->D->Option D
 | .int i,.int j=>if BitOk i/\BitOk j then some (.int (i * j)) else none
 | _,_=>none
noncomputable def rn:D->D->Option D
 | .int i,.int j=>if j ≠ 0/\j.natAbs.log2 < 9000 then some (.int (i.fdiv j)) else none
 | _,_=>none
noncomputable def isY:D->D->Option D
 | d,.non=>some (.bl (isN d))
 | .bl a,.bl b=>some (.bl (a == b))
 | _,_=>none
noncomputable def ly:D->D->Option D
 | d,.non=>some (.bl (!isN d))
 | .bl a,.bl b=>some (.bl (!(a == b)))
 | _,_=>none
section
variable {K:PySem.W.Frag}
theorem xD:OpA K zy eL:=by
 intro H ok x y d e u Q h1 h2 g k
 cases d with
 | int i=>
   cases e with
   | int j=>
     obtain rfl:=h1.int_inv; obtain rfl:=h2.int_inv
     replace g:(if BitOk i/\BitOk j then some (D.int (i * j)) else none)=some u:=g
     split at g
     · rename_i hz; cases g; exact ⟨hz,k _ H (Same.refl _) az⟩
     · cases g
   | _=>cases g
 | _=>cases g
theorem xE:OpA K zz rn:=by
 intro H ok x y d e u Q h1 h2 g k
 cases d with
 | int i=>
   cases e with
   | int j=>
     obtain rfl:=h1.int_inv; obtain rfl:=h2.int_inv
     replace g:(if j ≠ 0/\j.natAbs.log2 < 9000 then some (D.int (i.fdiv j)) else none)=some u:=g
     split at g
     · rename_i hz; cases g; exact ⟨hz,k _ H (Same.refl _) az⟩
     · cases g
   | _=>cases g
 | _=>cases g
theorem Bz:OpA K Dm isY:=by
 intro H ok x y d e u Q h1 h2 g k
 match d,e,g with
 | d,.non,g=>exact .inl (kM H ok x y d .non u Q h1 h2 g k)
 | .bl a,.bl b,g=>
   obtain rfl:=h1.bl_inv; obtain rfl:=h2.bl_inv
   cases g
   exact .inr ⟨a,b,rfl,rfl,k _ H (Same.refl _) bN⟩
theorem xF:OpA K zA ly:=by
 intro H ok x y d e u Q h1 h2 g k
 match d,e,g with
 | d,.non,g=>exact .inl (gX H ok x y d .non u Q h1 h2 g k)
 | .bl a,.bl b,g=>
   obtain rfl:=h1.bl_inv; obtain rfl:=h2.bl_inv
   cases g
   exact .inr ⟨a,b,rfl,rfl,k _ H (Same.refl _) bN⟩
end
noncomputable def uG (lo hi c:Int):Nat:=(if lo < hi then (hi - lo - 1) / c+1 else 0).toNat
noncomputable def Itc (lo c:Int) (n:Nat):It:=⟨fun i _=>i < n,fun i H x H'=>H'=H/\x=.int (lo+(i:Nat) * c),fun i _=>n<=i⟩
theorem rA {P:Program} {w:World} {K:PySem.W.Frag} {tg:Expr} (it:Addr) (lo c:Int) (n:Nat):Turn P w K tg (Itc lo c n) [it] it (fun i h=>IsRangeIter h it (lo+(i:Nat) * c) ((n:Int) - (i:Nat)) c) where
 mem:=by simp
 obj:=fun i h st b hb=>by
   obtain rfl:b=it:=by simpa using hb
   exact ⟨_,st,fun v z=>by cases (show Data.fields _=Data.cell v from z)⟩
 keep:=fun i h h' st k=>k it (by simp) _ st
 item:=by
   intro X hP hw hK hc i pins s σ H E I hf st hg
   subst hP hw hK
   obtain ⟨f0,f1,f2,f3,f4,f5⟩:=hf it (by simp)
   refine (Walks.range (prog:=X.prog) (w:=X.w) (I.ok.hd hc) it lo c n).item i s _ _ hg st fun v h' tk hv st' kk=>?_
   obtain ⟨t,rfl⟩:=hv
   have I1:Inv X pins σ H { s with heap:=h',toks:=tk }:=I.turned (fun b o hb e=>kk b o (by simpa using hb) e) f0 f1 f3 f4 f5
   exact ⟨_,rfl,jz (s:={ s with heap:=h',toks:=tk }) (n:="range_iterator") st' rfl rfl (by decide) ⟨.int (lo+(i:Nat) * c),H,I1,⟨t,rfl⟩,⟨rfl,rfl⟩,st',fun b hb=>(hf b hb).1⟩⟩
 done:=by
   intro X hP hw hK hc i pins s σ H E I hf st hg
   subst hP hw hK
   obtain ⟨f0,f1,f2,f3,f4,f5⟩:=hf it (by simp)
   have hle:n<=i:=hg
   exact wpAny_pyNext_range_end (I.ok.hd hc) st (by lia) fun h' eb=>⟨rfl,I.turned (t':=s.toks) (fun b o hb e=>eb b o hb e) f0 f1 f3 f4 f5⟩
 self:=fun _ _ _ _ _ st h=>wpAny_pyIter_rangeiter st h
noncomputable def iV (i j c:Int):Prop:=0<=i/\i < 1000000/\0<=j/\j < 1000000/\0 < c/\c < 1000
instance {i j c:Int}:Decidable (iV i j c):=by unfold iV; infer_instance
noncomputable def gA (i j c:Int):Prop:=-1000000 < i/\i < 1000000/\-1000000 < j/\j < 1000000/\c < 0/\-1000 < c
instance {i j c:Int}:Decidable (gA i j c):=by unfold gA; infer_instance
noncomputable def gP (lo hi c:Int):Nat:=(if hi < lo then (lo - hi - 1) / (-c)+1 else 0).toNat
noncomputable def uH (i j c:Int) (n:Nat):Prop:=c ≠ 0/\c.natAbs < 1000/\(n:Int)=Builtin.Range.rangeSize i j c/\Builtin.Range.small i j c=true
noncomputable def uI (ta:TA):TI:=fun σ H R=>ta σ H fun vs H1=>∃ (i j c:Int) (n:Nat),vs=[.int i,.int j,.int c]/\uH i j c n/\R (Itc i c n) H1
theorem uJ {i j c:Int} (h:gA i j c):uH i j c (gP i j c):=by
 obtain ⟨h1,h2,h3,h4,h5,h6⟩:=h
 have hz:(gP i j c:Int)=Builtin.Range.rangeSize i j c:=by
   unfold gP Builtin.Range.rangeSize
   rw [if_neg (show ¬ c > 0 by omega)]
   by_cases g:j < i
   · have:0<=(i - j - 1) / (-c):=Int.ediv_nonneg (by omega) (by omega)
     rw [if_pos g]
     omega
   · rw [if_neg g]; rfl
 have hb:Builtin.Range.rangeSize i j c<=2000000:=by
   unfold Builtin.Range.rangeSize
   rw [if_neg (show ¬ c > 0 by omega)]
   by_cases g:j < i
   · have:(i - j - 1) / (-c)<=i - j - 1:=Int.ediv_le_self _ (by omega)
     rw [if_pos g]
     omega
   · rw [if_neg g]; decide
 refine ⟨by omega,by omega,hz,?_⟩
 unfold Builtin.Range.small
 simp only [Builtin.Range.rangeFitsLong,Z25,Bool.or_eq_true,decide_eq_true_eq,beq_iff_eq,if_neg (show ¬ c > 0 by omega)]
 omega
theorem jX {i j c:Int} (h:iV i j c):(uG i j c:Int)=Builtin.Range.rangeSize i j c:=by
 unfold uG Builtin.Range.rangeSize
 rw [if_pos h.2.2.2.2.1]
 obtain ⟨h1,h2,h3,h4,h5,h6⟩:=h
 split
 · have:0<=(j - i - 1) / c:=Int.ediv_nonneg (by lia) (by exact (Int.le_of_lt h5))
   grind
 · rfl
theorem oM {i j c:Int} (h:iV i j c):Builtin.Range.small i j c=true:=by
 have hs:=jX h
 obtain ⟨h1,h2,h3,h4,h5,h6⟩:=h
 have hb:Builtin.Range.rangeSize i j c<=1000000:=by
   unfold Builtin.Range.rangeSize
   rw [if_pos h5]
   split
   · have:(j - i - 1) / c<=j - i - 1:=Int.ediv_le_self _ (by omega)
     lia
   · exact Int.le_trans h1 (Int.le_of_lt h2)
 unfold Builtin.Range.small
 simp -iota only [Builtin.Range.rangeFitsLong,Z25,Bool.or_eq_true,decide_eq_true_eq,beq_iff_eq,if_pos h5]
 lia
section
variable {X:Cx} {tg:Expr}
theorem rB {a b d:Expr} {ta:TA} {p pos:Pos} (hg:Gl X "range") (hm:X.mg "range"=none) (ha:PA X [a,b,d] ta) (hs:starEach [a,b,d] X.env=[(false,eval a X.env),(false,eval b X.env),(false,eval d X.env)]:=by rfl) (hs2:starEach [b,d] X.env=[(false,eval b X.env),(false,eval d X.env)]:=by rfl) :
   PI X tg (.Call (.Name "range" p) [a,b,d] [] pos) (uI ta):=by
 intro pins s σ H R I h
 refine Call_ (fU I hg hm boot_range (PyProof.Rows.callWith_type1 (thn (ha pos pins s σ H _ I h) fun us s1 ⟨vs,H1,I1,r1,q1⟩=>?_) (by rw [hs,hs2]) (by rw [hs2]; rfl)))
 obtain ⟨i,j,c,n,rfl,⟨hc0,hc1,hc2,hc3⟩,q⟩:=q1
 cases r1 with
 | cons r rr=>
 cases rr with
 | cons r' rr=>
 cases rr with
 | cons r'' rr=>
 cases rr
 obtain ⟨t,rfl⟩:=r
 obtain ⟨t',rfl⟩:=r'
 obtain ⟨t'',rfl⟩:=r''
 refine call_range_3 hc0 ?_ (.inl (PyProof.noPylong_small (Nat.lt_trans hc1 (by decide))))
 refine wpAny_pyIter_range (IsRange.new ..) hc3 ?_
 have I2:Inv X pins σ H1 { s1 with heap:=s1.heap.push { cls:=.type "range",data:=.fields #[.int i t,.int j t',.int c t''] },toks:=s1.toks }:=I1.kept fun b o e=>Z7 _ e
 refine ⟨(s1.heap.push { cls:=.type "range",data:=.fields #[.int i t,.int j t',.int c t''] }).objs.size,[(s1.heap.push { cls:=.type "range",data:=.fields #[.int i t,.int j t',.int c t''] }).objs.size],_,_,H1,rfl,
   I2.kept (t':=s1.toks) fun b o e=>Z7 _ e,rA _ i c n,?_,fun b hb=>?_,q⟩
 · show IsRangeIter _ _ (i+((0:Nat):Int) * c) ((n:Int) - ((0:Nat):Int)) c
   rw [show i+((0:Nat):Int) * c=i by simp,show (n:Int) - ((0:Nat):Int)=Builtin.Range.rangeSize i j c by rw [<- hc2]; lia]
   exact Z20 _ rfl
 · obtain rfl:b=(s1.heap.push { cls:=.type "range",data:=.fields #[.int i t,.int j t',.int c t''] }).objs.size:=by simpa using hb
   exact I2.fpOk (Z10 _) (I2.hok.fresh (Z10 _))
end
noncomputable def gQ (lo c:Int) (n:Nat):List D:=(List.range n).map fun k=>D.int (lo+(k:Nat) * c)
noncomputable def mZ (f:MA):MI:=fun ρ=>(f ρ).bind fun x=>(eT x.2 x.1).bind fun ds=>match ds with
 | [.int i,.int j,.int c]=>if iV i j c then some (gQ i c (uG i j c),x.2) else if gA i j c then some (gQ i c (gP i j c),x.2) else none
 | _=>none
section
variable {C:Cn} {md:List Md}
theorem xG (A W:Addr->Prop) (lo c:Int) (n:Nat) (H:Hp):kY C A W (Itc lo c n) (gQ lo c n) H:=by
 intro A' W' H' g i
 refine ⟨fun d e=>?_,fun h=>?_⟩
 · unfold gQ at e
   rw [Z21,Option.map_eq_some_iff] at e
   obtain ⟨k,e1,rfl⟩:=e
   obtain ⟨h1,h2⟩:=Z9.mp e1
   rw [List.length_range] at h1
   rw [List.getElem_range] at h2
   subst h2
   refine ⟨h1,fun x H'' y=>jO ⟨y.1,?_⟩⟩
   rw [y.2]
   exact az
 · simp -iota [gQ] at h
   exact h
theorem xH {t:TA} {f:MA} (h:LA C md t f):LI C md none (uI t) (mZ f):=by
 intro A W ρ σ H Q ds ρ' r e k
 unfold mZ at e
 simp -iota only [Z0] at e
 obtain ⟨⟨os,ρ1⟩,e1,xs,e2,e3⟩:=e
 cases xs with
 | cons y7 y8=>
   cases y7 with
   | int i=>
     cases y8 with
     | cons y9 y10=>
       cases y9 with
       | int j=>
         cases y10 with
         | cons y11 y12=>
           cases y11 with
           | int c=>
             cases y12 with
             | nil=>
               dsimp only at e3
               have fin:∀ n,uH i j c n->(gQ i c n,ρ1)=(ds,ρ')->uI t σ H Q:=fun n hj e4=>by
                 cases e4
                 refine h A W ρ σ H _ os _ r e1 fun vs H1 x1 r1 p1=>?_
                 obtain ⟨v1,w1,rfl,pv1,q1⟩:=p1.get r1 e2
                 obtain ⟨v2,w2,rfl,pv2,q2⟩:=q1
                 obtain ⟨v3,w3,rfl,pv3,q3⟩:=q2
                 obtain rfl:w3=[]:=q3
                 obtain rfl:=pv1.int_inv
                 obtain rfl:=pv2.int_inv
                 obtain rfl:=pv3.int_inv
                 exact ⟨i,j,c,n,rfl,hj,k _ H1 x1 r1 fun W2 _ _=>xG _ _ _ _ _ _⟩
               split at e3
               · rename_i hj
                 have hc:=hj.2.2.2.2
                 exact fin _ ⟨by omega,by omega,jX hj,oM hj⟩ (Z27 e3)
               · split at e3
                 · rename_i hj
                   exact fin _ (uJ hj) (Z27 e3)
                 · cases e3
             | _=>cases e3
           | _=>cases e3
         | _=>cases e3
       | _=>cases e3
     | _=>cases e3
   | _=>cases e3
 | _=>cases e3
end
end Mir
namespace L2
open PySem PySem.Spec PyProof.Rows
noncomputable def bA:Int->List Int->Int
 | m,[]=>m
 | m,x::l=>bA (if x < m then x else m) l
theorem jY (val:Nat->Int) (n:Int) (l:List Int) (h:∀ i,i < (n::l).length->val i=(n::l).getD i 0):∀ k,k<=l.length->val (argBest (fun i j=>decide (val i < val j)) k)=bA n (l.take k)
 | 0,_=>by
   simp [argBest,bA]
   have:=h 0 (by simp)
   simpa using this
 | k+1,hk=>by
   have ih:=jY val n l h k (by omega)
   have e:l.take (k+1)=l.take k++[l.getD k 0]:=by
     rw [List.take_add_one,Z5,Z3 (show k < l.length by omega)]
     simp
   have app:∀ (m:Int) (a:List Int) (x:Int),bA m (a++[x])=if x < bA m a then x else bA m a:=by
     intro m a x
     induction a generalizing m with
     | nil=>rfl
     | cons y a ih=>simp only [Z51,bA]; exact ih _
   have hv:val (k+1)=l.getD k 0:=by
     have:=h (k+1) (by simp; omega)
     simpa using this
   rw [e,app,<- ih,<- hv]
   show val (if decide (val (k+1) < val (argBest (fun i j=>decide (val i < val j)) k))=true then k+1 else argBest (fun i j=>decide (val i < val j)) k)=_
   by_cases c:val (k+1) < val (argBest (fun i j=>decide (val i < val j)) k)
   · rw [if_pos (decide_eq_true c),if_pos c]
   · rw [if_neg (by simp [c]),if_neg c]
section
variable {P:Program} {w:World} {A:Around} {E:Value->Shared->Prop} {s:Shared} {d it v:Addr} {o:Obj} {es:Array DictEntry} {ep i:Nat}
theorem Do {Q:Value->Shared->Prop} (hm:(d == sysModules)=false) (ho:s.heap.get? d=some o) (hx:o.ExactDict)
   (q:Q (.ref s.heap.objs.size) { s with heap:=s.heap.push { cls:=.type "dict_values",data:=.fields #[.ref d] } }):wpAny (model P w) A (call (.builtin "dict.values") [.ref d]) Q E s:=by
 have ty:s.TypeIs (.ref d) "dict":=⟨o,ho,hx.1⟩
 refine wpAny_call_entry F.slot_dict_values ty F.entry_dict_values ?_ (F.args_dict_values_1 _)
 refine Z55 ?_
 unfold Builtin.Dict.noArgs
 refine Z55 (wpAny_notOrdered_dict ty ?_)
 show wpAny _ _ (pure d) _ _ s
 refine Z56 (show wpAny _ _ (Builtin.Dict.showsAll d >>= _) _ _ s from ?_)
 unfold Builtin.Dict.showsAll
 rw [if_neg (by rw [hm]; simp)]
 exact Z55 (Z56 (Z55 (wpAny_newObj_type (Z56 ⟨_,rfl,q⟩))))
theorem BA {Q:Value->Shared->Prop} (hv:s.heap.IsValuesView v d) (ho:s.heap.get? d=some o) (hd:o.data=.dict es ep)
   (q:Q (.ref s.heap.objs.size) { s with heap:=s.heap.push { cls:=.type "dict_valueiterator",data:=.fields #[.ref d,.int 0 0,.int es.size 0,.int ep 0] } }):wpAny (model P w) A (pyIter (.ref v)) Q E s:=by
 obtain ⟨ov,hov,hcv,hdv⟩:=id hv
 refine wpAny_pyIter_slot hv.typeIs F.slot_dict_values_iter (wpAny_call_entry F.slot_dict_values_iter hv.typeIs F.entry_dict_values_iter ?_ (F.args_dict_values_iter_1 _))
 unfold Builtin.«dict_values.__iter__» Builtin.Dict_items.dictOf
 refine Z55 (Z56 (Z55 (Z55 (wpAny_field hov hdv (x:=.ref d) rfl (Z56 (Z55 ?_))))))
 unfold Builtin.Dict_items.newIterator
 refine Z55 (wpAny_dictEntries ho hd (Z55 (wpAny_dictEpoch ho hd ?_)))
 simp only [show Builtin.Dict_items.ownsTuple "dict_valueiterator"=false by decide,Z47,if_false]
 refine wpAny_newObj_type (Z56 ⟨_,rfl,"dict_valueiterator",_,⟨_,Z20 _ rfl,rfl⟩,F.slot_dict_valueiterator_next.lookup,?_⟩)
 simpa [rawInt] using q
theorem BB {Q:Option Value->Shared->Prop} (K:s.heap.IsValIter it d i es.size ep) (ho:s.heap.get? d=some o) (hd:o.data=.dict es ep) {e:DictEntry} (hi:es[i]?=some e)
   (q:∀ h',h'.IsValIter it d (i+1) es.size ep->Heap.SameBut it s.heap h'->Q (some e.val) { s with heap:=h' }):wpAny (model P w) A (pyNext (.ref it)) Q E s:=by
 obtain ⟨oi,hoi,hc,hf⟩:=id K
 unfold pyNext
 refine Z55 (wpAny_attempt (wpAny_callSpecial?_slot (name:=Str.ofString "__next__") K.typeIs F.slot_dict_valueiterator_next (wpAny_call_entry F.slot_dict_valueiterator_next K.typeIs F.entry_dict_valueiterator_next ?_ (F.args_dict_valueiterator_next_1 _))))
 refine Z55 (Z56 (Z55 (Z55 ?_)))
 first | refine Z55 (wpAny_typeNameOfWhole_valiter K.typeIs (Z56 ?_)) | refine Z55 (wpAny_typeNameOf_valiter K.typeIs (Z56 ?_))
 refine Z55 (wpAny_fieldsOf hoi hf ?_)
 simp only [show Builtin.Dict_items.ownsTuple "dict_valueiterator"=false by decide,Z47,if_false]
 show wpAny _ _ (if (Value.ref d == Value.none)=true then _ else _) _ _ s
 rw [if_neg (show ¬ ((Value.ref d == Value.none)=true) from nofun)]
 refine Z55 (Z56 (Z55 (wpAny_dictEntries ho hd ?_)))
 rw [if_neg (by simp)]
 refine Z55 (Z56 (Z55 (wpAny_dictEpoch ho hd ?_)))
 rw [if_neg (by simp)]
 refine Z56 ?_
 simp only [show ¬ ((i:Int) < 0) by omega,if_false,Int.toNat_natCast,hi]
 refine Z55 ?_
 first | refine Z55 (wpAny_typeNameOfWhole_valiter K.typeIs (Z56 ?_)) | refine Z55 (wpAny_typeNameOf_valiter K.typeIs (Z56 ?_))
 refine Z55 (wpAny_isOneOf_valiter K.typeIs ?_)
 show wpAny _ _ (setField (.ref it) 1 (rawInt ((i:Int)+1)) >>= _) _ _ s
 refine Z55 (wpAny_setField hoi hf (by simp) ?_)
 have K':(s.heap.update it (Obj.mapFields (·.setIfInBounds 1 (rawInt ((i:Int)+1))))).IsValIter it d (i+1) es.size ep:=⟨_,Heap.get?_update_self _ hoi (Obj.isFreed_of_fields (Obj.data_mapFields hf _)),(Obj.cls_mapFields ..).trans hc,by rw [Obj.data_mapFields hf]; simp [rawInt]⟩
 refine Z55 (wpAny_holding (Z55 (wpAny_isOneOf_valiter (s:={ s with heap:=s.heap.update it (Obj.mapFields (·.setIfInBounds 1 (rawInt ((i:Int)+1)))) }) K'.typeIs ?_)))
 refine Z55 (wpAny_isOneOf_valiter (s:={ s with heap:=s.heap.update it (Obj.mapFields (·.setIfInBounds 1 (rawInt ((i:Int)+1)))) }) K'.typeIs ?_)
 show wpAny _ _ (pure e.val) _ _ _
 exact Z56 (Z56 ⟨_,rfl,Z56 (q _ K' (Heap.SameBut.update ..))⟩)
theorem Dp {Q:Option Value->Shared->Prop} (hh:A.handled=none) (K:s.heap.IsValIter it d i es.size ep) (ho:s.heap.get? d=some o) (hd:o.data=.dict es ep) (hi:es.size<=i)
   (q:∀ h',Heap.ExtBut it s.heap h'->Q none { s with heap:=h' }):wpAny (model P w) A (pyNext (.ref it)) Q E s:=by
 obtain ⟨oi,hoi,hc,hf⟩:=id K
 unfold pyNext
 refine Z55 (wpAny_attempt (wpAny_callSpecial?_slot (name:=Str.ofString "__next__") K.typeIs F.slot_dict_valueiterator_next (wpAny_call_entry F.slot_dict_valueiterator_next K.typeIs F.entry_dict_valueiterator_next ?_ (F.args_dict_valueiterator_next_1 _))))
 refine Z55 (Z56 (Z55 (Z55 ?_)))
 first | refine Z55 (wpAny_typeNameOfWhole_valiter K.typeIs (Z56 ?_)) | refine Z55 (wpAny_typeNameOf_valiter K.typeIs (Z56 ?_))
 refine Z55 (wpAny_fieldsOf hoi hf ?_)
 simp only [show Builtin.Dict_items.ownsTuple "dict_valueiterator"=false by decide,Z47,if_false]
 show wpAny _ _ (if (Value.ref d == Value.none)=true then _ else _) _ _ s
 rw [if_neg (show ¬ ((Value.ref d == Value.none)=true) from nofun)]
 refine Z55 (Z56 (Z55 (wpAny_dictEntries ho hd ?_)))
 rw [if_neg (by simp)]
 refine Z55 (Z56 (Z55 (wpAny_dictEpoch ho hd ?_)))
 rw [if_neg (by simp)]
 refine Z56 ?_
 simp only [show ¬ ((i:Int) < 0) by omega,if_false,Int.toNat_natCast,Array.getElem?_eq_none hi]
 refine Z55 ?_
 first | refine Z55 (wpAny_typeNameOfWhole_valiter K.typeIs (Z56 ?_)) | refine Z55 (wpAny_typeNameOf_valiter K.typeIs (Z56 ?_))
 show wpAny _ _ (setField (.ref it) 0 .none >>= _) _ _ s
 refine Z55 (wpAny_setField hoi hf (by simp) ?_)
 show wpAny _ _ (newExc (.type "StopIteration") [] >>= _) _ _ _
 refine Z55 ?_
 simp only [newExc,newTuple]
 refine Z55 (wpAny_newObj_type ?_ (by size_fits))
 refine Z55 (m:=firstArgMember _ _) (wpAny_of_eq (a:=Value.none) (by first | rfl | (simp only [firstArgMember]; rfl)) (wpAny_newObj_type ?_ (by size_fits)))
 simp only [raiseNew]
 refine Z55 (wpAny_handled ?_)
 rw [show A.in1.handled=none from hh]
 refine Z55 (Z56 (wpAny_throw ?_))
 refine Z55 (wpAny_isInstance (b:=true) (T:="StopIteration") ⟨_,Z20 _ rfl,rfl⟩ isSubtype_stop ?_)
 exact Z56 (q _ (((Heap.SameBut.update ..).extBut.push _).push _))
theorem Dq (hh:A.handled=none) (hne:d ≠ it) (hd:o.data=.dict es ep):Walks P w A it [it,d] [it] es.size (fun i v=>∃ e:DictEntry,es[i]?=some e/\v=e.val) (fun i h=>h.IsValIter it d i es.size ep/\h.get? d=some o) where
 sub:=fun b hb=>by simp at hb; simp [hb]
 frame:=fun _ _ _ st hk=>⟨st.1.at fun o e=>hk it (by simp) o e,hk d (by simp) _ st.2⟩
 item:=fun i s Q E hi st hQ=>BB st.1 st.2 hd (Array.getElem?_eq_getElem hi) fun h' st' sb=>hQ _ h' s.toks ⟨_,Array.getElem?_eq_getElem hi,rfl⟩ ⟨st',(sb.2 d hne).trans st.2⟩ fun b o hb e=>sb.extBut b o (fun h=>hb (by simp [h])) e
 done:=fun s Q E st hQ=>Dp hh st.1 st.2 hd (Z10 _) fun h' he=>hQ h' s.toks fun b o hb e=>he b o (fun h=>hb (by simp [h])) e
 self:=fun _ _ _ _ st hQ=>wpAny_pyIter_valiter st.1 hQ
end
section
variable {X:Cx}
noncomputable def VVf (p a:Addr):Heap->Prop:=fun h=>h.IsValuesView p a
theorem Dr {P:Program} {w:World} {H:Hp} {h:Heap} {p a:Addr} (x:VVf p a h):ObjOk P w H h p (.ext (VVf p a)):=
 ⟨x,let ⟨o,z,_⟩:=x; ⟨o,z⟩,fun _ _ y e=>let ⟨o,z,r⟩:=y; ⟨o,e o z,r⟩⟩
noncomputable def Ds:V->Hp->VK->Prop:=fun x H Q=>∃ a o kvs,x=.ref a/\H a=some (.ext (NDf a o kvs))/\∀ p,H p=none->Q (.ref p) (upd H p (.ext (VVf p a)))
noncomputable def zB (te:TE):TE:=fun σ H Q=>te σ H fun x H1=>Ds x H1 Q
theorem xI {e:Expr} {te:TE} {apos cpos:Pos} (he:PE X e te) (hbase:attributeBase e (Str.ofString "values") X.env (eval e X.env)=eval e X.env:=by rfl) (hline:(apos.endLine == cpos.line)=true:=by rfl):PE X (.Call (.Attribute e (Str.ofString "values") apos) [] [] cpos) (zB te):=by
 intro pins s σ H Q I h
 refine wpAny_Call_method0_late hbase hline (thn (he pins s σ H _ I h) fun v s1 ⟨x,H1,I1,r1,q1⟩=>?_)
 obtain ⟨a,o,kvs,rfl,hH,q⟩:=q1
 cases r1
 obtain ⟨h1,h2,h3,_⟩:=fD (I1.hok a _ hH)
 refine ⟨"dict","dict.values",F.plainAttrs_dict,F.slot_dict_values,F.type_dict_values,⟨o,h1,h3.1⟩,fun b e=>?_,Calls.callWith_builtin rfl (PySem.evalArgs_none (Do h2 h1 h3 ⟨.ref s1.heap.objs.size,_,?_,rfl,q _ (I1.hok.fresh (Z10 _))⟩))⟩
 · cases e; exact ⟨o,h1,h3.2.1⟩
 · exact I1.laid (t':=s1.toks) (fun _ _ z=>Z7 _ z) (Z10 _) (Dr ⟨_,Z20 _ rfl,rfl,rfl⟩)
noncomputable def cg (n:Int) (l:List Int):Int:=-(bA (-n) (l.map fun x=>-x))
noncomputable def zC:List V->Hp->VK->Prop:=fun xs H Q=>∃ (p a:Addr) (o:Obj) (kvs:List (KA × V)) (n:Int) (ns:List Int),xs=[.ref p]/\H p=some (.ext (VVf p a))/\H a=some (.ext (NDf a o kvs))/\kvs.map (·.2)=(n::ns).map V.int/\Q (.int (cg n ns)) H
theorem xJ {P:Program} {w:World} {H:Hp} {h:Heap} {a:Addr} {o:Obj} {kvs:List (KA × V)} (x:ObjOk P w H h a (.ext (NDf a o kvs))):∃ es ep,o.data=.dict es ep/\es.size=kvs.length/\∀ (i:Nat) (e:DictEntry) (kv:KA × V),es[i]?=some e->kvs[i]?=some kv->RelV kv.2 e.val:=by
 obtain ⟨⟨z0,z1,z2,qs,z3,es,ep,h1,z5,z6,z7⟩,_⟩:=x
 refine ⟨es,ep,z6,?_,fun i e kv he hi=>?_⟩
 · have:=congrArg List.length z7
   simp at this
   rw [this]
   exact (Paired.length z3).symm
 · have key:∀ {l:List (KA × V)} {m:List (KA × Value)},KV l m->∀ (i:Nat) (kv:KA × V) (q:KA × Value),l[i]?=some kv->m[i]?=some q->RelV kv.2 q.2:=by
     intro l m r
     unfold KV at r
     induction r with
     | nil=>intro i kv q h; simp at h
     | @cons p q ps qs h t ih=>
       intro i kv q' h1 h2
       cases i with
       | zero=>simp at h1 h2; subst h1; subst h2; exact h.2
       | succ i=>simp at h1 h2; exact ih i kv q' h1 h2
   rw [<- Array.getElem?_toList,z7,Z21,Z21,Option.map_eq_some_iff] at he
   obtain ⟨r,he,rfl⟩:=he
   rw [Option.map_eq_some_iff] at he
   obtain ⟨q,hq,rfl⟩:=he
   exact key z3 i kv q hi hq
theorem rC (hc:X.calm=true):CallR X (.builtin "max") zC:=by
 intro pins s σ H xs us Q I r h
 obtain ⟨p,a,o,kvs,n,ns,rfl,hp,ha,hv,q⟩:=h
 obtain ⟨u,rfl,rx⟩:=dh r
 cases rx
 have view:s.heap.IsValuesView p a:=(show ObjOk X.prog X.w H s.heap p (.ext (VVf p a)) from I.hok p _ hp).1
 obtain ⟨h1,h2,h3,_⟩:=fD (I.hok a _ ha)
 obtain ⟨es,ep,hd,hs,hr⟩:=xJ (I.hok a _ ha)
 have hlt:a < s.heap.objs.size:=Z13 h1
 have hlen:kvs.length=ns.length+1:=by simpa using congrArg List.length hv
 have at_:∀ (i:Nat) (v:Value),(∃ e:DictEntry,es[i]?=some e/\v=e.val)->∃ t,v=Value.int ((n::ns).getD i 0) t:=by
   rintro i v ⟨e,he,rfl⟩
   have hi:i < kvs.length:=by rw [<- hs]; exact (Array.getElem?_eq_some_iff.mp he).1
   have z:=hr i e _ he (Z3 hi)
   have w:(kvs.map (·.2))[i]?=some (V.int ((n::ns)[i]'(by simp; omega))):=by
     rw [hv,Z21,Z3 (show i < (n::ns).length by simp; omega)]
     rfl
   rw [Z21,Z3 hi] at w
   have w':(kvs[i]).2=V.int ((n::ns)[i]'(by simp; omega)):=Z27 w
   rw [w'] at z
   obtain ⟨t,z⟩:=z
   exact ⟨t,by rw [z,Z5,Z3 (show i < (n::ns).length by simp; omega)]; rfl⟩
 refine call_max_walk (BA view h1 hd ⟨s.heap.objs.size,[s.heap.objs.size,a],[s.heap.objs.size],es.size,_,_,fun i j=>decide ((n::ns).getD i 0 > (n::ns).getD j 0),rfl,Dq (o:=o) (show X.A.in1.handled=none from I.ok.hd hc) (Z26 hlt) hd,⟨⟨_,Z20 _ rfl,rfl,rfl⟩,Z7 _ h1⟩,?_,?_,CmpOf.ints_gt (fun i=>(n::ns).getD i 0) at_,?_⟩)
 · intro b hb
   show b < (s.heap.push _).objs.size
   rw [Heap.size_push]
   rcases Z19.mp hb with rfl | hb
   · exact Nat.lt_succ_self _
   · obtain rfl:b=a:=by simpa using hb
     exact Nat.lt_succ_of_lt hlt
 · omega
 · intro v h' tk hv' kk
   obtain ⟨t,rfl⟩:=at_ _ v hv'
   have e:=jY (fun i=>-((n::ns).getD i 0)) (-n) (ns.map fun x=>-x) (fun i hi=>by
     simp at hi
     rw [show -n::(ns.map fun x=>-x)=(n::ns).map fun x=>-x from rfl,Z5,Z5,Z21,Z3 (show i < (n::ns).length by simp; omega)]
     rfl) ns.length (by simp)
   rw [show (ns.map fun x=>-x).take ns.length=ns.map fun x=>-x from List.take_of_length_le (by simp)] at e
   have e2:es.size - 1=ns.length:=by omega
   have e3:(fun i j=>decide ((n::ns).getD i 0 > (n::ns).getD j 0))=fun i j=>decide (-((n::ns).getD i 0) < -((n::ns).getD j 0)):=by
     funext i j
     exact decide_eq_decide.mpr (by omega)
   refine ⟨.int (cg n ns),H,I.kept (t':=tk) fun b o eo=>kk b o (fun hb=>?_) (Z7 _ eo),⟨t,?_⟩,q⟩
   · have:b=s.heap.objs.size:=by simpa using hb
     rw [this] at eo
     exact absurd (Z13 eo) (Z33 _)
   · rw [e2,e3]
     unfold cg
     rw [<- e]
     simp
end
namespace HT2
open HT PySem.Builtin
section
variable {prog:Program} {w:World} {A:Around} {E:Value->Shared->Prop} {s:Shared}
theorem getItem_tuple_whole {t sl:Addr} {items:Array Value} {vl vu:Value} {lo hi:Option Int} {Q:Value->Shared->Prop} (ht:IsTup s.heap t items) (hs:s.heap.IsSliceOf sl vl vu .none) (pl:IsPart vl lo) (pu:IsPart vu hi)
   (hw:HT.sIx items.size 0 lo=0/\HT.sIx items.size items.size hi=items.size) (h:Q (.ref t) s):wpAny (model prog w) A (getItem (.ref t) (.ref sl)) Q E s:=by
 obtain ⟨os,hos,hcs,hds⟩:=id hs
 have hTs:s.TypeIs (.ref sl) "slice":=⟨os,hos,hcs⟩
 unfold getItem
 try with_reducible refine wpAny_holding ?_
 first | refine Z55 (Z56 ?_) | skip
 refine Z55 (wpAny_sequenceKey ht.typeIs (by decide) ?_)
 refine Z55 (wpAny_callSpecial?_slot (name:=Str.ofString "__getitem__") ht.typeIs PyProof.Rows.slot_tuple_getitem
   (wpAny_call_entry PyProof.Rows.slot_tuple_getitem ht.typeIs entry_tuple_getitem ?_ (args_tuple_getitem _ _)))
 show wpAny _ _ (Builtin.Tuple.tupleItemsOf (.ref t) >>= _) _ _ s
 refine Z55 (tupleItemsOf_ ht ?_)
 refine Z55 (wpAny_typeOf hTs ?_)
 rw [if_pos (by decide)]
 refine Z55 (cz hs pl pu ?_)
 have hyes:((((HT.sIx items.size 0 lo:Nat):Int) == 0 && (1:Int) == 1 && (HT.sIx items.size items.size hi - HT.sIx items.size 0 lo) == items.size)=true):=by
   rw [hw.1,hw.2]; simp
 show wpAny _ _ (if (((HT.sIx items.size 0 lo:Nat):Int) == 0 && (1:Int) == 1 && (HT.sIx items.size items.size hi - HT.sIx items.size 0 lo) == items.size)=true then _ else _) _ _ s
 rw [if_pos hyes]
 have hT:=ht.typeIs
 unfold Builtin.Tuple.tupleIsExact
 refine Z55 (Z55 (wpAny_typeOf hT (Z56 ?_)))
 rw [if_pos (by decide)]
 exact Z55 (wpAny_rule (Z56 ⟨_,rfl,Z56 h⟩))
end
end HT2
section
variable {X:Cx}
noncomputable def Dt (K:PySem.W.Frag):V->Option Int->Option Int->Hp->VK->Prop:=fun x lo hi H Q=>∃ a xs,x=.ref a/\SqT K H a xs/\(HT.sIx xs.length 0 lo=0/\HT.sIx xs.length xs.length hi=xs.length)/\Q (.ref a) H
theorem xK:SlR X (Dt X.K):=by
 intro pins s σ H x v vl vu lo hi sl Q I rx hs pl pu h
 obtain ⟨a,xs,rfl,hx,hw,q⟩:=h
 cases rx
 obtain ⟨its,r,ht,hz⟩:=I.tuple hx
 have hlen:its.toArray.size=xs.length:=by rw [Z4]; exact r.length.symm
 refine ⟨"tuple",_,PyProof.Rows.slot_tuple_getitem.lookup,ht.typeIs,?_⟩
 exact HT2.getItem_tuple_whole ht hs pl pu (by rw [hlen]; exact hw) ⟨.ref a,H,I,rfl,q⟩
noncomputable def BC (K:PySem.W.Frag):V->Option Int->Option Int->Hp->VK->Prop:=fun x lo hi H Q=>Bo K x lo hi H Q∨Dt K x lo hi H Q
theorem BD {K:PySem.W.Frag} (kt:KT K) (hK:X.K=K:=by rfl):SlR X (BC K):=by
 subst hK
 exact (uc kt).or xK
end
end L2
namespace Mir
open PySem PySem.Spec PyProof.Rows L2
noncomputable def slZ (d:D) (lo hi:Option Int):Option D:=match d with
 | .tup l=>if HT.sIx l.length 0 lo=0/\HT.sIx l.length l.length hi=l.length then some (.tup l) else some (.tup (lg l lo hi))
 | d=>slD d lo hi
section
variable {K:PySem.W.Frag} {C:Cn} {md:List Md}
theorem xL {H:Hp} {ok:Addr->Prop} {x:V} {d u:D} {lo hi:Option Int} {Q:VK} (h:RepT K H ok d x) (g:slZ d lo hi=some u) (k:∀ v H',Same H H'->RepP K H' (fun a=>ok a∨H a=none) u v->Q v H'):BC K x lo hi H Q:=by
 cases d with
 | tup l=>
   replace g:(if HT.sIx l.length 0 lo=0/\HT.sIx l.length l.length hi=l.length then some (D.tup l) else some (.tup (lg l lo hi)))=some u:=g
   by_cases c:HT.sIx l.length 0 lo=0/\HT.sIx l.length l.length hi=l.length
   · rw [if_pos c] at g
     cases g
     obtain ⟨a,xs,rfl,ht,rp⟩:=h.tup_inv
     refine .inr ⟨a,xs,rfl,ht,by rw [rp.length]; exact c,k _ H (Same.refl _) ?_⟩
     rw [RepP]
     exact ⟨a,xs,rfl,ht,rp.mono fun _ _ o _=>.inl o⟩
   · rw [if_neg c] at g
     exact .inl (gq h (show slD (.tup l) lo hi=some u by show (if _ then _ else _)=_; rw [if_neg c]; exact g) k)
 | lst l=>
   exact .inl (gq h g k)
 | str l=>
   exact .inl (gq h g k)
 | int y5=>
   exact .inl (gq h g k)
 | bl y6=>
   exact .inl (gq h g k)
 | non=>
   exact .inl (gq h g k)
noncomputable def rD (f:ME) (lo hi:MO):ME:=fun ρ=>(f ρ).bind fun x=>(lo x.2).bind fun y=>(hi y.2).bind fun z=>(res z.2 x.1).bind fun d=>(slZ d y.1 z.1).bind fun u=>some (.val u,z.2)
theorem BE {t:TE} {tl th:TO} {f:ME} {lo hi:MO} (h:LE C md t f) (hl:LO C md tl lo) (hh:LO C md th hi):LE C md (tSl (BC C.K) t tl th) (rD f lo hi):=by
 intro A W ρ σ H Q o ρ' r e k
 unfold rD at e
 simp only [Z0] at e
 obtain ⟨⟨o1,ρ1⟩,e1,⟨b,ρ2⟩,e2,⟨c,ρ3⟩,e3,d,e4,u,e5,e6⟩:=e
 cases e6
 refine h A W ρ σ H _ o1 ρ1 r e1 fun v1 H1 x1 r1 p1=>?_
 refine hl A W ρ1 σ H1 _ b ρ2 r1 e2 fun H2 x2 r2=>?_
 refine hh A W ρ2 σ H2 _ c _ r2 e3 fun H3 x3 r3=>?_
 refine xL (((p1.stay r1 x2).stay r2 x3).get r3 e4) e5 fun v H' s q=>?_
 obtain ⟨z1,z2,z3⟩:=fin ((x1.trans x2).trans x3) r3 s q
 exact k v H' z1 z2 z3
theorem Ev.slZ {f:ME} {lo hi:MO} {ρ ρ1 ρ2 ρ3:En} {x:Op} {a b:Option Int} {d u:D} (h1:f ρ=some (x,ρ1)) (h2:lo ρ1=some (a,ρ2)) (h3:hi ρ2=some (b,ρ3)) (h4:res ρ3 x=some d) (h5:Mir.slZ d a b=some u):rD f lo hi ρ=some (.val u,ρ3):=by
 unfold rD
 simp only [h1,h2,h3,h4,h5,Z1]
end
noncomputable def iW (l:List D):List D:=l.mapIdx fun i d=>D.tup [.int (i:Nat),d]
end Mir
namespace L2
open PySem PySem.Spec PyProof.Rows
theorem oN {prog:Program} {w:World} {A:Around} (hh:A.handled=none) (it l:Addr) (items:Array Value) (n:Nat) (hn:items.size<=n):Draws prog w A it [it,l] n (fun _ _=>True) (fun j h=>j=n/\h.IsListIter it l j/\h.IsList l items) where
 live:=fun _ _ st=>let ⟨o,ho,_⟩:=st.2.1; ⟨o,ho⟩
 frame:=fun _ _ _ st hk=>⟨st.1,st.2.1.at fun o e=>hk it (by simp) o e,st.2.2.at fun o e=>hk l (by simp) o e⟩
 item:=fun i s Q E hi st hQ=>absurd st.1 (Z26 hi)
 done:=fun s Q E st hE=>wpAny_nextOf_list_end hh st.2.1 st.2.2 (by simp; exact hn) hE
noncomputable def BF (K:PySem.W.Frag) (a:Addr):It:=
 ⟨fun i H=>∃ xs x,SqL K H a xs/\xs[i]?=some x,fun i H x H'=>∃ T y,H T=none/\H'=upd H T (.tup [.int (i:Nat),y])/\x=.ref T/\∀ xs,SqL K H a xs->xs[i]?=some y,fun i H=>∃ xs,SqL K H a xs/\xs.length<=i⟩
structure EnuLL (e it a:Addr) (i:Nat) (h:Heap):Prop where
 he:∃ old,IsEnum h e it i old
 hi:h.IsListIter it a i
theorem rE {P:Program} {w:World} {K:PySem.W.Frag} {es:List Expr} {k:Nat} {pos:Pos} (a e it:Addr) (hne:e ≠ it) :
   Turn P w K (.Tuple es k pos) (BF K a) [e,it] e (EnuLL e it a) where
 mem:=by simp
 obj:=fun i h st b hb=>by
   simp -iota only [Z19,List.not_mem_nil,or_false] at hb
   rcases hb with rfl | rfl
   · obtain ⟨old,q⟩:=st.he
     exact ⟨_,q,fun v z=>by cases z⟩
   · obtain ⟨o,q,c,d⟩:=st.hi
     exact ⟨o,q,fun v z=>by rw [d] at z; cases z⟩
 keep:=fun i h h' st kk=>by
   obtain ⟨old,q⟩:=st.he
   obtain ⟨o,q',r⟩:=st.hi
   exact ⟨⟨old,kk e (by simp) _ q⟩,⟨o,kk it (by simp) o q',r⟩⟩
 item:=by
   intro X hP hw hK hc i pins s σ H E I hf st hg
   subst hP hw hK
   obtain ⟨old,he⟩:=st.he
   obtain ⟨xs,x,hq,hx⟩:=hg
   obtain ⟨its,rv,p,hz⟩:=I.list hq
   obtain ⟨u,hu,ru⟩:=rv.get hx
   have pT:s.heap.IsList a its.toArray:=p.isList
   have hi:i < its.toArray.size:=by
     rw [Z4]
     exact (Z9.mp hu).1
   have nit:a ≠ it:=fun z=>by
     obtain ⟨o,q,c,_⟩:=st.hi
     obtain ⟨o',q',c',_⟩:=pT
     rw [z,q] at q'
     cases q'
     rw [c] at c'
     injection c' with c''
     exact absurd c'' (by decide)
   have nae:e ≠ a:=fun z=>by
     obtain ⟨o',q',c',_⟩:=pT
     rw [<- z,he] at q'
     cases q'
     injection c' with c''
     exact absurd c'' (by decide)
   refine wpAny_pyNext_enum_itemD (Draws.list (by simpa using I.ok.hd hc) it a nit its.toArray) he ⟨st.hi,pT⟩ hi hne (by simp -iota [hne,nae]) fun v h' tk hv ho hst ht hz' hk=>?_
   have hv':v=u:=by
     rw [List.getElem?_toArray,hu] at hv
     cases hv
     rfl
   subst hv'
   refine ⟨_,rfl,wpAny_letOwnedTupleGo_enum (s:={ s with heap:=h',toks:=tk+1 }) ho fun h2 he2 sb=>?_⟩
   have lt1:e < s.heap.objs.size:=Z13 he
   have lt2:it < s.heap.objs.size:=by obtain ⟨_,q,_⟩:=st.hi; exact Z13 q
   have kk:∀ b o,b ∉ [e,it]->s.heap.get? b=some o->h2.get? b=some o:=fun b o hb q=>by
     simp -iota only [Z19,List.not_mem_nil,or_false,not_or] at hb
     exact (sb.2 b hb.1).trans (hk b o hb.1 hb.2 q)
   have sz:h2.get? s.heap.objs.size=some { cls:=.type "tuple",data:=.seq #[.int i tk,v] }:=(sb.2 _ (Nat.ne_of_gt lt1)).trans ht
   have I2:=I.pairNew (t':=tk+1) (x:=.int (i:Nat)) (y:=x) kk hf sz ⟨tk,rfl⟩ ru
   refine ⟨.ref s.heap.objs.size,_,I2,rfl,⟨_,x,I.hok.fresh (Z10 _),rfl,rfl,fun ys hy=>by rw [I.list_inj hy hq]; exact hx⟩,⟨⟨_,by simpa using he2⟩,?_⟩,fun b hb=>?_⟩
   · obtain ⟨o,q,r⟩:=hst.1
     exact ⟨o,(sb.2 it hne.symm).trans q,r⟩
   · simp -iota only [Z19,List.not_mem_nil,or_false] at hb
     rcases hb with rfl | rfl
     · rw [au (Z26 lt1)]; exact (hf _ (by simp)).1
     · rw [au (Z26 lt2)]; exact (hf _ (by simp)).1
 done:=by
   intro X hP hw hK hc i pins s σ H E I hf st hg
   subst hP hw hK
   obtain ⟨old,he⟩:=st.he
   obtain ⟨xs,hq,hx⟩:=hg
   obtain ⟨its,rv,p,hz⟩:=I.list hq
   have pT:s.heap.IsList a its.toArray:=p.isList
   have hl:=rv.length
   refine wpAny_pyNext_enum_endD (oN (by simpa using I.ok.hd hc) it a its.toArray i (by rw [Z4]; lia)) he ⟨rfl,st.hi,pT⟩ fun h' eb=>⟨rfl,?_⟩
   exact I.turnedL (t':=s.toks) (ch:=[e,it]) (fun b o hb q=>by
     simp -iota only [Z19,List.not_mem_nil,or_false,not_or] at hb
     exact eb b o hb.2 q) hf
 self:=fun _ _ _ _ _ st h=>by
   obtain ⟨old,he⟩:=st.he
   exact wpAny_pyIter_enum he h
section
variable {X:Cx}
noncomputable def pW (K:PySem.W.Frag) (ta:TA):TI:=fun σ H R=>ta σ H fun vs H1=>∃ a,vs=[.ref a]/\(∃ xs,SqL K H1 a xs)/\R (BF K a) H1
theorem xM {a:Expr} {ta:TA} {p pos:Pos} {es:List Expr} {k:Nat} {tp:Pos} (hg:Gl X "enumerate") (hm:X.mg "enumerate"=none) (ha:PA X [a] ta) (hs:starEach [a] X.env=[(false,eval a X.env)]:=by rfl) :
   PI X (.Tuple es k tp) (.Call (.Name "enumerate" p) [a] [] pos) (pW X.K ta):=by
 intro pins s σ H R I h
 refine Call_ (fU I hg hm PyProof.Rows.boot_enumerate (PyProof.Rows.callWith_type1 (thn (ha pos pins s σ H _ I h) fun us s1 ⟨vs,H1,I1,r1,q1⟩=>?_) hs rfl))
 obtain ⟨b,rfl,⟨xs,hq⟩,q⟩:=q1
 obtain ⟨u,rfl,rx⟩:=dh r1
 cases rx
 obtain ⟨its,rv,pl,hz⟩:=I1.list hq
 refine call_enumerate_list pl.isList fun h' c1 c2 c3 c4=>?_
 have I2:Inv X pins σ H1 { s1 with heap:=h' }:=I1.kept (t':=s1.toks) c4
 refine wpAny_pyIter_enum (s:={ s1 with heap:=h' }) c1 ?_
 refine ⟨s1.heap.objs.size+1,_,_,_,H1,rfl,I2,rE b _ _ (Nat.succ_ne_self _),⟨⟨_,c1⟩,c2⟩,fun b hb=>?_,q⟩
 have hb':s1.heap.objs.size<=b:=by
   simp -iota only [Z19,List.not_mem_nil,or_false] at hb
   rcases hb with e | e <;> rw [e] <;> first | exact Z10 _ | exact Z45 _ _
 exact I1.fpOk hb' (I1.hok.fresh hb')
theorem uK {K:PySem.W.Frag} {a:Expr} {ta:TA} {p pos:Pos} {es:List Expr} {k:Nat} {tp:Pos} (kt:KT K) (hg:Gl X "enumerate") (hm:X.mg "enumerate"=none) (ha:PA X [a] ta) (hs:starEach [a] X.env=[(false,eval a X.env)]:=by rfl) (hK:X.K=K:=by rfl) :
   PI X (.Tuple es k tp) (.Call (.Name "enumerate" p) [a] [] pos) (pW K ta):=by
 subst hK
 exact xM hg hm ha hs
end
end L2
namespace Mir
open PySem PySem.Spec PyProof.Rows L2
noncomputable def jZ (md:List Md) (f:MA):MI:=fun ρ=>(f ρ).bind fun x=>(stos md x.2 x.1).bind fun ds=>match ds with
 | [.lst l]=>some (iW l,x.2)
 | _=>none
section
variable {C:Cn} {md:List Md}
theorem pX {A W:Addr->Prop} {ρ:En} {σ:L2.St} {H:Hp} {W2:Addr->Prop} (r:R C md A W ρ σ H) (hw:∀ a,W2 a->W a) {a:Addr} {xs:List V} {l:List D} (h:H a=some (.lst xs)) (na:¬ W2 a) (p:RepPL C.K H (fun b=>¬ A b) l xs):kY C A W2 (BF C.K a) (iW l) H:=by
 intro A' W' H' g i
 have st:aT C.K H H':=g.ext.stayT fun a w=>r.wk a (hw a w)
 have h':SqL C.K H' a xs:=.inl (.inl (g.ext a _ na h))
 have p':RepPL C.K H' (fun b=>¬ A' b) l xs:=p.stay st fun b ys o z=>⟨g.ext b _ (fun w=>o (r.wa b (hw b w))) z,fun w=>by
   rcases g.an b w with y | y
   · exact o y
   · rw [y] at z; cases z⟩
 refine ⟨fun d e=>?_,fun hl=>?_⟩
 · unfold iW at e
   rw [List.getElem?_mapIdx,Option.map_eq_some_iff] at e
   obtain ⟨d1,e1,rfl⟩:=e
   obtain ⟨x,ex,px⟩:=p'.get e1
   refine ⟨⟨xs,x,h',ex⟩,fun z H'' yl=>?_⟩
   obtain ⟨T,y,hT,rfl,rfl,yx⟩:=yl
   have zx:=yx xs h'
   rw [ex] at zx
   cases zx
   refine ⟨aA hT,?_⟩
   rw [RepP]
   have s:=aA (o:=HO.tup [.int (i:Nat),x]) hT
   exact ⟨T,_,rfl,ar,.cons az (.cons ((px.same s).mono fun _ _ o _=>.inl o) .nil)⟩
 · refine ⟨xs,h',?_⟩
   rw [p'.length]
   unfold iW at hl
   rw [List.length_mapIdx] at hl
   exact hl
theorem xN {t:TA} {f:MA} (h:LA C md t f):LI C md none (pW C.K t) (jZ md f):=by
 intro A W ρ σ H Q ds ρ' r e k
 unfold jZ at e
 simp -iota only [Z0] at e
 obtain ⟨⟨os,ρ1⟩,e1,xs,e2,e3⟩:=e
 cases xs with
 | cons y3 y4=>
   cases y3 with
   | lst l=>
     cases y4 with
     | nil=>
       cases e3
       refine h A W ρ σ H _ os _ r e1 fun vs H1 x1 r1 p1=>?_
       obtain ⟨v,r2,rfl,pv,pr⟩:=(p1.stos r1 e2).cons_inv
       obtain rfl:=pr.nil_inv
       rw [RepP] at pv
       obtain ⟨a,ys,rfl,h1,h2,h3⟩:=pv
       exact ⟨a,rfl,⟨ys,.inl (.inl h1)⟩,k _ H1 x1 r1 fun W2 hw _=>pX r1 hw h1 (fun w=>h2 (r1.wa _ (hw _ w))) h3⟩
     | _=>cases e3
   | _=>cases e3
 | _=>cases e3
end
end Mir
namespace L2
open PySem PySem.Spec PyProof.Rows
noncomputable def oO (z y:Str):Option Nat:=(Builtin.Str.occurrences z y 0 z.length 1).head?
noncomputable def uL:V->List V->Hp->VK->Prop:=fun x vs H Q=>∃ z y i,x=.str z/\vs=[.str y]/\oO z y=some i/\Q (.int i) H
theorem uM {X:Cx}:MtR X "str.index" uL:=by
 intro pins s σ H x xs v us Q I rx rxs h
 obtain ⟨z,y,i,rfl,rfl,e,q⟩:=h
 obtain ⟨t,rfl⟩:=rx
 obtain ⟨u,rfl,⟨t2,rfl⟩⟩:=dh rxs
 unfold oO at e
 cases ho:Builtin.Str.occurrences z y 0 z.length 1 with
 | nil=>rw [ho] at e; cases e
 | cons j r=>
   rw [ho] at e
   cases e
   exact SC.index ho ⟨.int i,H,I.tok _,⟨_,rfl⟩,q⟩
end L2
namespace Mir
open PySem PySem.Spec PyProof.Rows L2
noncomputable def Du:D->D->Option D
 | .str z,.str y=>some (.int (Txt.find z y))
 | _,_=>none
noncomputable def lz:D->D->Option D
 | .str z,.str y=>(oO z y).map fun i=>.int i
 | _,_=>none
noncomputable def m4 (f2:D->D->Option D) (fa fb:ME):ME:=fun ρ=>(fa ρ).bind fun x=>(res x.2 x.1).bind fun d=>(fb x.2).bind fun y=>(res y.2 y.1).bind fun c=>(f2 d c).bind fun n=>some (.val n,y.2)
noncomputable def Dv:ME->ME->ME:=m4 Du
noncomputable def iX:ME->ME->ME:=m4 lz
section
variable {C:Cn} {md:List Md}
theorem uN {ta tb:TE} {fa fb:ME} (ha:LE C md ta fa) (hb:LE C md tb fb):LE C md (tBM C.K "str" uL ta (b9 tb eK)) (iX fa fb):=by
 intro A W ρ σ H Q o ρ' r e k
 unfold iX m4 at e
 simp only [Z0] at e
 obtain ⟨⟨o1,ρ1⟩,e1,d,e2,⟨o2,ρ2⟩,e3,c,e4,n,e5,e6⟩:=e
 cases e6
 cases d with
 | str z=>
   cases c with
   | str y=>
     replace e5:(oO z y).map (fun i=>D.int i)=some n:=e5
     cases eo:oO z y with
     | none=>rw [eo] at e5; cases e5
     | some i=>
       rw [eo] at e5
       cases e5
       refine ha A W ρ σ H _ o1 ρ1 r e1 fun v1 H1 x1 r1 p1=>?_
       obtain rfl:=(p1.get r1 e2).str_inv
       refine ⟨rfl,?_⟩
       refine hb A W ρ1 σ H1 _ o2 ρ2 r1 e3 fun v2 H2 x2 r2 p2=>?_
       obtain rfl:=(p2.get r2 e4).str_inv
       exact ⟨z,y,i,rfl,rfl,eo,k _ H2 (x1.trans x2) r2 (show RepP _ _ _ _ _ from az)⟩
   | _=>cases e5
 | _=>cases e5
end
section
variable {C:Cn} {md:List Md} {A W:Addr->Prop} {ρ:En} {σ:L2.St} {H:Hp}
theorem Ev.meth {f2:D->D->Option D} {fa fb:ME} {ρ ρ1 ρ2:En} {o1 o2:Op} {d c n:D} (h1:fa ρ=some (o1,ρ1)) (h2:res ρ1 o1=some d) (h3:fb ρ1=some (o2,ρ2)) (h4:res ρ2 o2=some c) (h5:f2 d c=some n):m4 f2 fa fb ρ=some (.val n,ρ2):=by
 unfold m4
 simp only [h1,h2,h3,h4,h5,Z1]
end
theorem Ev.index {fa fb:ME} {ρ ρ1 ρ2:En} {o1 o2:Op} {d c n:D} (h1:fa ρ=some (o1,ρ1)) (h2:res ρ1 o1=some d) (h3:fb ρ1=some (o2,ρ2)) (h4:res ρ2 o2=some c) (h5:lz d c=some n):iX fa fb ρ=some (.val n,ρ2):=Ev.meth h1 h2 h3 h4 h5
noncomputable def dmS:Option S->Option (List (NK × D))
 | some (.dm kvs)=>some kvs
 | _=>none
theorem fJ {o:Option S} {kvs:List (NK × D)} (h:dmS o=some kvs):o=some (.dm kvs):=by
 cases o with
 | some y2=>
   cases y2 with
   | dm l=>cases h; rfl
   | _=>cases h
 | _=>cases h
noncomputable def dnS:Option S->Option (List (NK × D))
 | some (.dn kvs)=>some kvs
 | _=>none
theorem dD {o:Option S} {kvs:List (NK × D)} (h:dnS o=some kvs):o=some (.dn kvs):=by
 cases o with
 | some y2=>
   cases y2 with
   | dn l=>cases h; rfl
   | _=>cases h
 | _=>cases h
noncomputable def cv:List D->Option (List Int)
 | []=>some []
 | .int i::r=>(cv r).map (i::·)
 | _=>none
noncomputable def nkD:D->Option NK
 | .non=>some none
 | .tup l=>(cv l).map some
 | _=>none
noncomputable def nkE:NK->D
 | none=>.non
 | some ks=>.tup (ks.map D.int)
section
variable {K:PySem.W.Frag} {H:Hp} {ok:Addr->Prop}
theorem eY:∀ {l:List D} {k:List Int} {xs:List V},cv l=some k->RepPL K H ok l xs->xs=k.map V.int
 | [],k,xs,e,r=>by cases e; rw [r.nil_inv]; rfl
 | .int i::l,k,xs,e,r=>by
   replace e:(cv l).map (i::·)=some k:=e
   rw [Option.map_eq_some_iff] at e
   obtain ⟨k',e1,rfl⟩:=e
   obtain ⟨x,t,rfl,h1,h2⟩:=r.cons_inv
   rw [RepP] at h1
   rw [h1,eY e1 h2]
   rfl
 | .non::_,_,_,e,_=>by cases e
 | .bl _::_,_,_,e,_=>by cases e
 | .str _::_,_,_,e,_=>by cases e
 | .tup _::_,_,_,e,_=>by cases e
 | .lst _::_,_,_,e,_=>by cases e
theorem pY {d:D} {v:V} {k:NK} (h:RepT K H ok d v) (e:nkD d=some k):∃ c:KA,v=kaV c/\kaK c=k/\∀ p,c=some p->H p.1=some (.tup (p.2.map V.int)):=by
 cases d with
 | non=>cases e; exact ⟨none,h.non_inv,rfl,fun p z=>by cases z⟩
 | tup l=>
   replace e:(cv l).map some=some k:=e
   rw [Option.map_eq_some_iff] at e
   obtain ⟨ks,e1,rfl⟩:=e
   obtain ⟨a,xs,rfl,h1,h2⟩:=h.tup_inv
   rw [eY e1 h2] at h1
   exact ⟨some (a,ks),rfl,rfl,fun p z=>by cases z; exact h1⟩
 | _=>cases e
theorem uO {c:KA} (h:∀ p,c=some p->H p.1=some (.tup (p.2.map V.int))):KyV H (kaV c) (kaK c):=by
 cases c with
 | none=>rfl
 | some p=>exact ⟨p.2,rfl,h p rfl⟩
theorem gR:∀ (ks:List Int),RepPL K H ok (ks.map D.int) (ks.map V.int)
 | []=>.nil
 | i::r=>.cons az (gR r)
theorem BG {c:KA} (h:∀ p,c=some p->H p.1=some (.tup (p.2.map V.int))):RepP K H ok (nkE (kaK c)) (kaV c):=by
 cases c with
 | none=>exact du
 | some p=>
   show RepP K H ok (.tup (p.2.map D.int)) (.ref p.1)
   rw [RepP]
   exact ⟨p.1,_,rfl,h p rfl,gR _⟩
theorem RepN.len {kvs:List (NK × D)} {ws:List (KA × V)} (h:RepN K H ok kvs ws):ws.length=kvs.length:=by
 have:=congrArg List.length h.ks
 simpa using this
theorem RepN.val:∀ {kvs:List (NK × D)} {ws:List (KA × V)} (k:NK),RepN K H ok kvs ws->(∀ d,aM kvs k=some d->∃ v,valN ws k=some v/\RepP K H ok d v)/\(aM kvs k=none->valN ws k=none)
 | [],ws,k,h=>by
   have:ws=[]:=List.length_eq_zero_iff.mp h.len
   subst this
   exact ⟨fun d e=>(by cases e),fun _=>rfl⟩
 | (k',d)::r,ws,k,h=>by
   cases ws with
   | nil=>cases h.len
   | cons w t=>
     have hk:=h.ks
     rw [Z6,Z6] at hk
     obtain ⟨hk1,hk2⟩:=List.cons.inj hk
     have hv:=h.vs
     rw [Z6,Z6] at hv
     obtain ⟨x,r',e,h1,h2⟩:=hv.cons_inv
     cases e
     have ih:=RepN.val k (⟨hk2,fun kv m=>h.ki kv (Z8 _ m),h2⟩:RepN K H ok r t)
     unfold aM valN
     rw [Z44]
     by_cases e:k'=k
     · rw [if_pos e,decide_eq_true (show kaK w.1=k from hk1.trans e)]
       exact ⟨fun d' e'=>by cases e'; exact ⟨_,rfl,h1⟩,fun e'=>by cases e'⟩
     · rw [if_neg e,decide_eq_false (show ¬ kaK w.1=k from fun z=>e (hk1.symm.trans z))]
       exact ih
theorem RepN.snoc {kvs:List (NK × D)} {ws:List (KA × V)} {c:KA} {d:D} {v:V} (h:RepN K H ok kvs ws) (hc:∀ p,c=some p->H p.1=some (.tup (p.2.map V.int))) (hv:RepP K H ok d v):RepN K H ok (kvs++[(kaK c,d)]) (ws++[(c,v)]) where
 ks:=by simp [h.ks]
 ki:=fun kv m p e=>by
   rcases Z11.mp m with m | m
   · exact h.ki kv m p e
   · cases Z12.mp m
     exact hc p e
 vs:=by
   rw [Z23,Z23]
   exact h.vs.append (.cons hv .nil)
end
section
variable {C:Cn} {md:List Md} {fx:Nat->Prop}
theorem R.dictM {A W:Addr->Prop} {ρ:En} {σ:L2.St} {H:Hp} {i:Nat} {kvs:List (NK × D)} {w:V} (r:R C md A W ρ σ H) (e:look ρ i=some (.dm kvs)) (ew:σ[i]?=some (some w)) :
   ∃ a o ws,w=.ref a/\H a=some (.ext (NDf a o ws))/\RepN C.K H (fun b=>¬ A b) kvs ws:=by
 obtain ⟨v,ev,c⟩:=r.slot i _ e
 rw [ew] at ev; cases ev
 cases em:aj md i with
 | pl=>rw [em] at c; exact c.elim
 | ow=>rw [em] at c; obtain ⟨a,ws,z,⟨o,c1⟩,c2,c3,c4⟩:=c; exact ⟨a,o,ws,z,c1,c4⟩
 | lk=>rw [em] at c; obtain ⟨a,ws,z,⟨o,c1⟩,c2,c3,c4⟩:=c; exact ⟨a,o,ws,z,c1,c4⟩
 | io=>rw [em] at c; obtain ⟨a,ws,z,⟨o,c1⟩,c2,c3,c4⟩:=c; exact ⟨a,o,ws,z,c1,c4⟩
theorem R.dictN {A W:Addr->Prop} {ρ:En} {σ:L2.St} {H:Hp} {i:Nat} {kvs:List (NK × D)} {w:V} (r:R C md A W ρ σ H) (e:look ρ i=some (.dn kvs)) (ew:σ[i]?=some (some w)) :
   ∃ a o ws,w=.ref a/\H a=some (.ext (NDf a o ws))/\¬ A a/\RepN C.K H (fun b=>¬ A b) kvs ws:=by
 obtain ⟨v,ev,c⟩:=r.slot i _ e
 rw [ew] at ev; cases ev
 cases em:aj md i with
 | pl=>rw [em] at c; obtain ⟨a,ws,z,⟨o,c1⟩,c2,c3⟩:=c; exact ⟨a,o,ws,z,c1,c2,c3⟩
 | ow=>rw [em] at c; exact c.elim
 | lk=>rw [em] at c; exact c.elim
 | io=>rw [em] at c; exact c.elim
noncomputable def lA:MN:=fun ρ=>some (.dm [],ρ)
theorem xO:LN C md ol lA:=by
 intro A W ρ σ H Q s ρ' r e k
 cases e
 refine .inr (.inr ?_)
 intro p o hp
 exact k p H _ (Ext.refl _ _) r hp (aA hp) ⟨[],⟨o,ar⟩,rfl,fun kv m=>(by cases m),.nil⟩
noncomputable def j6 (i:Nat) (f:ME):ME:=fun ρ=>(dnS (look ρ i)).bind fun _=>(f ρ).bind fun x=>(res x.2 x.1).bind fun d=>(nkD d).bind fun n=>(dnS (look x.2 i)).bind fun kvs=>(aM kvs n).bind fun u=>some (.val u,x.2)
theorem xP {i:Nat} {t:TE} {f:ME} (h:LE C md t f):LE C md (tOp (jq C.K) (aU i) t) (j6 i f):=by
 intro A W ρ σ H Q o ρ' r e k
 unfold j6 at e
 simp only [Z0] at e
 obtain ⟨kvs0,e0,⟨o1,ρ1⟩,e1,d,e2,n,e3,kvs,e5,u,e6,e7⟩:=e
 cases e7
 obtain ⟨v,ev,_⟩:=r.slot i _ (dD e0)
 refine ⟨v,ev,h A W ρ σ H _ o1 _ r e1 fun v1 H1 x1 r1 p1=>.inr (.inr (.inr ?_))⟩
 obtain ⟨a,ob,ws,rfl,c1,_,c2⟩:=r1.dictN (dD e5) ev
 obtain ⟨c,rfl,rfl,hc⟩:=pY (p1.get r1 e2) e3
 obtain ⟨v',w1,w2⟩:=(c2.val (kaK c)).1 u e6
 exact ⟨a,ob,ws,kaK c,v',rfl,⟨c1,c2.ki⟩,uO hc,w1,k v' H1 x1 r1 w2⟩
noncomputable def gB (x:Nat) (f:ME):MG:=fun d ρ=>(dmS (look ρ x)).bind fun _=>(f ρ).bind fun y=>(res y.2 y.1).bind fun kd=>(nkD kd).bind fun n=>(dmS (look y.2 x)).bind fun kvs=>
 if kvs.length < sizeLine/\(aM kvs n).isSome=false then some (y.2.set x (some (.dm (kvs++[(n,d)])))) else none
theorem xQ {x:Nat} {t:TE} {f:ME} (hm:aj md x=.ow∨aj md x=.io) (h:LE C md t f):LG C md fx (kK (aU x) t iF) (gB x f):=by
 intro A W ρ σ H v d ρ' Q r p e k
 unfold gB at e
 simp only [Z0] at e
 obtain ⟨kvs0,e0,⟨o,ρ1⟩,e1,kd,e2,n,e3,kvs,e5,e6⟩:=e
 split at e6
 · rename_i hz
   cases e6
   obtain ⟨w,hw,_⟩:=r.slot x _ (fJ e0)
   refine ⟨w,hw,?_⟩
   refine h A W ρ σ H _ o ρ1 r e1 fun v1 H1 x1 r1 p1=>.inr (.inr (.inr ?_))
   obtain ⟨c,rfl,rfl,hc⟩:=pY (p1.get r1 e2) e3
   obtain ⟨a,ob,ws,rfl,c1,c2⟩:=r1.dictM (fJ e5) hw
   have nn:aM kvs (kaK c)=none:=by
     cases z:aM kvs (kaK c) with
     | none=>rfl
     | some u=>rw [z] at hz; cases hz.2
   refine ⟨a,ob,ws,c,rfl,rfl,c1,c2.ki,hc,(c2.val _).2 nn,by rw [c2.len]; exact hz.1,fun o'=>?_⟩
   have pv:RepP C.K H1 (fun b=>¬ A b) d v:=r.stayP x1 p
   obtain ⟨H3,e7,b3,h3⟩:=My.iC H1 a (.ext (NDf a o' (ws++[(c,v)])))
   rw [e7]
   obtain ⟨x2,r3⟩:=r1.write hm (fJ e5) rfl rfl hw b3 (.inr (.inr (.inr ⟨_,h3⟩))) (s':=.dm (kvs++[(kaK c,d)])) fun ok okq oa aa wa st cc=>by
     obtain ⟨a',ws',q1,⟨o2,q2⟩,q3,q4,q5⟩:=cc
     cases q1
     exact ⟨a,_,rfl,⟨o',h3⟩,aa,oa,r1.stayN (fun c o nc h=>b3 c o (fun z=>nc (by rw [z]; exact wa)) h) (c2.snoc hc pv)⟩
   exact k σ H3 (x1.trans x2) r3 (Fix.refl _ _)
 · cases e6
noncomputable def j7 (i:Nat):MS:=fun ρ=>(dmS (look ρ i)).bind fun kvs=>if D.immL (kvs.map (·.2))=true then some (.ret (.dn kvs),ρ) else none
theorem xR {i:Nat} (hm:aj md i=.ow):LS C md (nK (aU i)) (j7 i):=by
 intro A W ρ σ H D fl ρ' r e k
 unfold j7 at e
 simp -iota only [Z0] at e
 obtain ⟨kvs,e1,e2⟩:=e
 split at e2
 · rename_i hi
   cases e2
   obtain ⟨v,ev,c⟩:=r.slot i _ (fJ e1)
   refine ⟨v,ev,k A W σ v H (Gr.refl _ _ _) r (Fix.refl _ _) (.inl ?_)⟩
   rw [hm] at c
   obtain ⟨a,ws,z,c1,c2,c3,c4⟩:=c
   exact ⟨a,ws,z,c3.2,c1,c4.ks,c4.ki,RepPL.ofImm hi c4.vs.repL⟩
 · cases e2
theorem R.setPN {A W:Addr->Prop} {ρ:En} {σ:L2.St} {H:Hp} (r:R C md A W ρ σ H) {i:Nat} (hm:aj md i=.pl) {kvs:List (NK × D)} {v:V} (h:tT C.K H (fun b=>¬ A b) (.dn kvs) v):R C md A W (ρ.set i (some (.dn kvs))) (σ.set i (some v)) H where
 len:=by rw [Z32,Z32]; exact r.len
 wa:=r.wa
 ak:=r.ak
 base:=r.base
 wf:=r.wf
 ma:=r.ma
 fo:=r.fo
 slot:=fun j s e=>by
   by_cases hij:i=j
   · subst hij
     have hl:=bp e
     rw [Z32] at hl
     rw [aV hl] at e
     cases e
     refine ⟨v,br (by rw [r.len]; exact hl),?_⟩
     rw [hm]
     exact h
   · rw [ay hij] at e
     obtain ⟨w,e1,h1⟩:=r.slot j s e
     exact ⟨w,by rw [aC hij]; exact e1,h1⟩
 inj:=fun j k s s' a hjk m1 m2 e1 e2 i1 i2 l1 l2=>by
   have n1:i ≠ j:=fun z=>m1 (by rw [<- z]; exact hm)
   have n2:i ≠ k:=fun z=>m2 (by rw [<- z]; exact hm)
   rw [ay n1] at e1
   rw [ay n2] at e2
   rw [aC n1] at l1
   rw [aC n2] at l2
   exact r.inj j k s s' a hjk m1 m2 e1 e2 i1 i2 l1 l2
noncomputable def gC (m:List S->Option S) (f:MA) (i:Nat):MS:=fun ρ=>(f ρ).bind fun x=>(dA x.2 x.1).bind fun ss=>(m ss).bind fun s=>(dnS (some s)).bind fun kvs=>some (.nx,x.2.set i (some (.dn kvs)))
theorem uP {i:Nat} {t:TA} {f:MA} {m:List S->Option S} {E:XK} (hm:aj md i=.pl) (h:LA C md t f):LS C md (kL (gJ (spP C.K m) [] E t) (dg i)) (gC m f i):=by
 intro A W ρ σ H D fl ρ' r e k
 unfold gC at e
 simp -iota only [Z0] at e
 obtain ⟨⟨os,ρ1⟩,e1,ss,e2,s,e3,kvs,e4,e5⟩:=e
 cases e5
 cases dD e4
 refine h A W ρ σ H _ os ρ1 r e1 fun vs H1 x1 r1 p1=>?_
 rw [Z35]
 refine ⟨ss,_,p1.argsA r1 e2,e3,fun v H2 s2 n=>?_⟩
 obtain ⟨a,ws,rfl,n1,n2,n3⟩:=n
 have r2:=r1.same s2
 refine k A W _ H2 (Gr.ofExt (x1.trans (Same.ext s2))) (r2.setPN hm ⟨a,ws,rfl,n2,r1.fresh n1,n3.mono fun b _ o _=>r1.fresh o.1⟩) fun j fj=>aC (fun z=>?_)
 rcases fj with fj | fj <;> (rw [<- z,hm] at fj; cases fj)
noncomputable def oP (i:Nat):MI:=fun ρ=>(dnS (look ρ i)).bind fun kvs=>some (kvs.map fun kv=>nkE kv.1,ρ)
theorem Dw {i:Nat}:LI C md none (iNd (aU i)) (oP i):=by
 intro A W ρ σ H Q ds ρ' r e k
 unfold oP at e
 simp -iota only [Z0] at e
 obtain ⟨kvs,e1,e2⟩:=e
 cases e2
 have e1:=dD e1
 obtain ⟨w,ew,_⟩:=r.slot i _ e1
 obtain ⟨a,o,ws,rfl,h1,na,h2⟩:=r.dictN e1 ew
 refine ⟨_,ew,a,o,ws,rfl,h1,k _ H (Ext.refl _ _) r fun W2 hw _=>?_⟩
 intro A' W' H' g j
 have st:aT C.K H H':=g.ext.stayT fun a w=>r.wk a (hw a w)
 have h':H' a=some (.ext (NDf a o ws)):=g.ext a _ (fun z=>na (r.wa a (hw a z))) h1
 have lw:ws.length=kvs.length:=h2.len
 refine ⟨fun d e=>?_,fun hl=>⟨by simpa [lw] using hl,h'⟩⟩
 rw [Z21,Option.map_eq_some_iff] at e
 obtain ⟨kv,e3,rfl⟩:=e
 obtain ⟨hj,_⟩:=Z9.mp e3
 refine ⟨⟨by rw [lw]; exact hj,h'⟩,fun y H'' yl=>jO ⟨yl.1,?_⟩⟩
 obtain ⟨_,c,e4,rfl⟩:=yl
 have ek:kaK c.1=kv.1:=by
   have:=congrArg (fun l:List NK=>l[j]?) h2.ks
   simp only [Z21,e3,e4,Option.map_some] at this
   exact Z27 this
 rw [<- ek]
 exact BG fun p ep=>st _ _ (h2.ki c (List.mem_of_getElem? e4) p ep)
end
theorem Ev.mnew {ρ:En}:lA ρ=some (.dm [],ρ):=rfl
theorem Ev.AI {i:Nat} {f:ME} {x:Op} {d:D} {n:NK} {kvs0 kvs:List (NK × D)} {u:D} {ρ ρ1:En} (h0:look ρ i=some (.dn kvs0)) (h1:f ρ=some (x,ρ1)) (h2:res ρ1 x=some d) (h3:nkD d=some n) (h4:look ρ1 i=some (.dn kvs)) (h5:aM kvs n=some u):j6 i f ρ=some (.val u,ρ1):=by
 unfold j6
 simp only [h0,h1,h2,h3,h4,h5,dnS,Z1]
theorem Ev.gMPut {x:Nat} {f:ME} {d:D} {o:Op} {kd:D} {n:NK} {kvs0 kvs:List (NK × D)} {ρ ρ1:En} (h0:look ρ x=some (.dm kvs0)) (h1:f ρ=some (o,ρ1)) (h2:res ρ1 o=some kd) (h3:nkD kd=some n) (h4:look ρ1 x=some (.dm kvs)) (h5:kvs.length < 1000000) (h7:aM kvs n=none) {ρ2:En} (h6:ρ1.set x (some (.dm (kvs++[(n,d)])))=ρ2) :
   gB x f d ρ=some ρ2:=by
 unfold gB
 have:kvs.length < sizeLine/\(aM kvs n).isSome=false:=⟨Z15 h5 (by decide),by rw [h7]; rfl⟩
 subst h6
 simp only [h0,h1,h2,h3,h4,dmS,Z1]
 rw [if_pos this]
theorem Ev.qW {i:Nat} {kvs:List (NK × D)} {ρ:En} (h0:look ρ i=some (.dm kvs)) (h1:D.immL (kvs.map (·.2))=true):j7 i ρ=some (.ret (.dn kvs),ρ):=by
 unfold j7
 simp only [h0,dmS,Z1,h1,if_true]
theorem Ev.ndI {i:Nat} {kvs:List (NK × D)} {ρ:En} (h0:look ρ i=some (.dn kvs)) {ds:List D} (h1:(kvs.map fun kv=>nkE kv.1)=ds):oP i ρ=some (ds,ρ):=by
 unfold oP
 subst h1
 simp only [h0,dnS,Z1]
noncomputable def iY:Md->Option S->Bool
 | _,none=>true
 | .pl,some (.d x)=>D.imm x
 | _,some (.d (.lst l))=>D.immL l
 | _,some (.d x)=>D.imm x
 | _,_=>false
noncomputable def lB (md:List Md) (ρ:En):Bool:=(List.range ρ.length).all fun i=>iY (aj md i) (look ρ i)
theorem xS {md:List Md} {ρ:En} {i:Nat} (h:lB md ρ=true) (hl:i < ρ.length):iY (aj md i) (look ρ i)=true:=
 Z50.mp h i (List.mem_range.mpr hl)
section
variable {K:PySem.W.Frag} {H H':Hp} {ok ok':Addr->Prop}
theorem cH (st:aT K H H') {d:D} {v:V} (i:D.imm d=true) (h:RepP K H ok d v):RepP K H' ok' d v:=
 (RepP.ofImm (ok:=fun _=>False) i h.rep).stay st fun _ _ o=>o.elim
theorem rF (st:aT K H H') {l:List D} {xs:List V} (i:D.immL l=true) (h:RepPL K H ok l xs):RepPL K H' ok' l xs:=
 (RepPL.ofImm (ok:=fun _=>False) i h.repL).stay st fun _ _ o=>o.elim
theorem pZ:∀ {ws:List (KA × V)} {j:Nat} {c:KA} {v:V},(ws.map fun x=>kaK x.1).Nodup->ws[j]?=some (c,v)->valN ws (kaK c)=some v
 | [],j,c,v,_,e=>by simp at e
 | w::r,j,c,v,nd,e=>by
   rw [Z6,List.nodup_cons] at nd
   unfold valN
   rw [Z44]
   cases j with
   | zero=>
     simp at e
     subst e
     rw [decide_eq_true rfl]
     rfl
   | succ j=>
     simp at e
     have:kaK w.1 ≠ kaK c:=fun z=>nd.1 (by rw [z]; exact Z18.mpr ⟨_,List.mem_of_getElem? e,rfl⟩)
     rw [decide_eq_false this]
     exact pZ nd.2 e
theorem rG {ws:List (KA × V)} {k:NK} (h:k ∉ ws.map fun x=>kaK x.1):valN ws k=none:=by
 have:(ws.find? fun kv=>decide (kaK kv.1=k))=none:=by
   rw [List.find?_eq_none]
   intro x hx hk
   exact h (by rw [<- of_decide_eq_true hk]; exact Z18.mpr ⟨x,hx,rfl⟩)
 simp [valN,this]
end
section
variable {C:Cn} {md:List Md} {A0 W0 A W A' W':Addr->Prop} {ρ ρ':En} {σ σ':L2.St} {H00 H H':Hp} {kvs:List (NK × List D)}
theorem R.poke (r:R C md A W ρ σ H) (hi:lB md ρ=true) {b:Addr} (hb:¬ A b) (h0:C.H0 b=none) (bt:∀ c o,c ≠ b->H c=some o->H' c=some o) (st:aT C.K H H'):R C md A W ρ σ H' where
 len:=r.len
 wa:=r.wa
 ak:=fun a ha=>by
   have n:a ≠ b:=fun z=>hb (by rw [<- z]; exact ha)
   exact (r.ak a ha).imp (fun ⟨xs,e⟩=>⟨xs,bt a _ n e⟩) (fun z=>z.imp (fun ⟨xs,e⟩=>⟨xs,bt a _ n e⟩) (fun z=>z.imp (fun ⟨xs,e⟩=>⟨xs,bt a _ n e⟩) (fun ⟨xs,e⟩=>⟨xs,bt a _ n e⟩)))
 base:=fun c o e n=>bt c o (fun z=>by rw [z,h0] at e; cases e) (r.base c o e n)
 wf:=r.wf
 ma:=r.ma
 fo:=r.fo
 slot:=fun i s e=>by
   obtain ⟨v,ev,c⟩:=r.slot i s e
   refine ⟨v,ev,?_⟩
   have im:=xS hi (bp e)
   rw [e] at im
   have cell:∀ {ok okq:Addr->Prop} {m:Md},m ≠ .pl->iY m (some s)=true->Cell C.K A H ok okq s v->Cell C.K A H' ok okq s v:=by
     intro ok okq m hm im c
     cases s with
     | d y=>
       cases y with
       | lst l=>
         have il:D.immL l=true:=by cases m with
           | pl=>exact absurd rfl hm
           | _=>exact im
         obtain ⟨a,xs,e1,h1,h2,h3,h4⟩:=c
         exact ⟨a,xs,e1,bt a _ (fun z=>hb (by rw [<- z]; exact h2)) h1,h2,h3,rF st il h4⟩
       | non=>exact cH st rfl (show RepP C.K H (fun b=>¬ A b) .non v from c)
       | bl x=>exact cH st rfl (show RepP C.K H (fun b=>¬ A b) (.bl x) v from c)
       | int x=>exact cH st rfl (show RepP C.K H (fun b=>¬ A b) (.int x) v from c)
       | str x=>exact cH st rfl (show RepP C.K H (fun b=>¬ A b) (.str x) v from c)
       | tup l=>
         have il:D.imm (.tup l)=true:=by cases m <;> exact im
         exact cH st il (show RepP C.K H (fun b=>¬ A b) (.tup l) v from c)
     | _=>cases m <;> cases im
   cases em:aj md i with
   | pl=>
     rw [em] at c im
     cases s with
     | d y=>exact cH st im (show RepP C.K H (fun b=>¬ A b) y v from c)
     | _=>cases im
   | ow=>rw [em] at c im; exact cell (m:=.ow) nofun im c
   | lk=>rw [em] at c im; exact cell (m:=.lk) nofun im c
   | io=>rw [em] at c im; exact cell (m:=.io) nofun im c
 inj:=r.inj
theorem R.remode {md':List Md} (r:R C md A W ρ σ H) (h:∀ i s,look ρ i=some s->aj md' i=aj md i):R C md' A W ρ σ H where
 len:=r.len
 wa:=r.wa
 ak:=r.ak
 base:=r.base
 wf:=r.wf
 ma:=r.ma
 fo:=r.fo
 slot:=fun i s e=>by
   rw [h i s e]
   exact r.slot i s e
 inj:=fun i j s s' a n m1 m2 e1 e2=>by
   rw [h i s e1] at m1
   rw [h j s' e2] at m2
   exact r.inj i j s s' a n m1 m2 e1 e2
structure Gh (C:Cn) (A:Addr->Prop) (H:Hp) (σ:L2.St) (kvs:List (NK × List D)) (F:Addr->Prop) (a:Addr) (ws:List (KA × V)):Prop where
 sl:σ[1]?=some (some (.ref a))
 ha:∃ ob,H a=some (.ext (NDf a ob ws))
 na:¬ A a
 fa:F a
 ki:iE H ws
 ks:(ws.map fun x=>kaK x.1)=kvs.map (·.1)
 kn:(kvs.map (·.1)).Nodup
 inn:∀ (j:Nat) (kl:NK × List D),kvs[j]?=some kl->∃ c b xs,ws[j]?=some (c,.ref b)/\H b=some (.lst xs)/\¬ A b/\F b/\RepPL C.K H (fun _=>False) kl.2 xs
 nd:∀ (i j:Nat) (c c':KA) (b:Addr),ws[i]?=some (c,.ref b)->ws[j]?=some (c',.ref b)->i=j
structure Stt (C:Cn) (md:List Md) (A0 W0:Addr->Prop) (H00:Hp) (A W:Addr->Prop) (ρ:En) (σ:L2.St) (H:Hp) (kvs:List (NK × List D)):Prop where
 r:R C md A W ρ σ H
 g:Gr A0 W0 H00 A W H
 gh:∃ a ws,Gh C A H σ kvs (fun b=>(H00 b=none∨W0 b)/\C.H0 b=none) a ws
theorem Stt.grow (s:Stt C md A0 W0 H00 A W ρ σ H kvs) (wa0:∀ a,W0 a->A0 a) (g:Gr A W H A' W' H') (r':R C md A' W' ρ' σ' H') (e:σ'[1]?=σ[1]?):Stt C md A0 W0 H00 A' W' ρ' σ' H' kvs where
 r:=r'
 g:=s.g.trans wa0 (fun _ _=>trivial) g
 gh:=by
   obtain ⟨a,ws,G⟩:=s.gh
   have st:aT C.K H H':=g.ext.stayT s.r.wk
   have nA:∀ {b:Addr} {o:HO},H b=some o->¬ A b->¬ A' b:=fun h n z=>by
     rcases g.an _ z with y | y
     · exact n y
     · rw [h] at y; cases y
   obtain ⟨ob,ha⟩:=G.ha
   refine ⟨a,ws,e.trans G.sl,⟨ob,g.ext a _ (fun w=>G.na (s.r.wa a w)) ha⟩,nA ha G.na,G.fa,fun kv m p ep=>st _ _ (G.ki kv m p ep),G.ks,G.kn,fun j kl h=>?_,G.nd⟩
   obtain ⟨c,b,xs,i1,i2,i3,i4,i5⟩:=G.inn j kl h
   exact ⟨c,b,xs,i1,g.ext b _ (fun w=>i3 (s.r.wa b w)) i2,nA i2 i3,i4,i5.stay st fun _ _ o=>o.elim⟩
theorem Stt.ext (s:Stt C md A0 W0 H00 A W ρ σ H kvs) (wa0:∀ a,W0 a->A0 a) (x:Ext W H H') (r':R C md A W ρ' σ H'):Stt C md A0 W0 H00 A W ρ' σ H' kvs:=s.grow wa0 (Gr.ofExt x) r' rfl
theorem Gr.poke (g:Gr A0 W0 H00 A W H) {b:Addr} (hb:H00 b=none∨W0 b) (bt:∀ c o,c ≠ b->H c=some o->H' c=some o):Gr A0 W0 H00 A W H' where
 an:=g.an
 wn:=g.wn
 ext:=fun c o nw hc=>by
   refine bt c o (fun z=>?_) (g.ext c o nw hc)
   subst z
   rcases hb with h | h
   · rw [h] at hc; cases hc
   · exact nw h
theorem Gr.none (g:Gr A0 W0 H00 A W H) {b:Addr} (h:H b=none):H00 b=none∨W0 b:=by
 cases e:H00 b with
 | none=>exact .inl rfl
 | some o=>
   by_cases w:W0 b
   · exact .inr w
   · have:=g.ext b o w e
     rw [h] at this; cases this
theorem Stt.put {Z:Ends} {i:Nat} (s:Stt C md A0 W0 H00 A W ρ σ H kvs) (wa0:∀ a,W0 a->A0 a) (hi:lB md ρ=true) (hm:aj md i=.pl) {hd:D} {k:NK} (e1:look ρ i=some (.d hd)) (e2:nkD hd=some k) (hz:kvs.length < sizeLine) (hk:k ∉ kvs.map (·.1))
   (q:∀ H',Stt C md A0 W0 H00 A W ρ σ H' (kvs++[(k,[])])->aT C.K H H'->Z.nx σ H'):kL (nT eK) (kK (aU 1) (aU i) iF) Z σ H:=by
 obtain ⟨a,ws,G⟩:=s.gh
 obtain ⟨w,hw,c3⟩:=s.r.slot i _ e1
 rw [hm] at c3
 obtain ⟨c,rfl,rfl,hc⟩:=pY (RepP.top (show RepP C.K H (fun b=>¬ A b) hd w from c3)) e2
 obtain ⟨ob,ha⟩:=G.ha
 have lw:ws.length=kvs.length:=by simpa using congrArg List.length G.ks
 refine ⟨Z30 _,fun p hp=>⟨_,G.sl,_,hw,.inr (.inr (.inr ?_))⟩⟩
 have s1:=aA (o:=.lst []) hp
 have pa:a ≠ p:=fun z=>by rw [z,hp] at ha; cases ha
 refine ⟨a,ob,ws,c,rfl,rfl,s1 _ _ ha,fun kv m p e=>s1 _ _ (G.ki kv m p e),fun p e=>s1 _ _ (hc p e),rG (by rw [G.ks]; exact hk),by rw [lw]; exact hz,fun o'=>?_⟩
 have hl:(upd H p (.lst [])) p=some (.lst []):=ar
 have ha1:=s1 _ _ ha
 have r1:=s.r.same s1
 have g1:Gr A0 W0 H00 A W (upd H p (.lst [])):=s.g.trans wa0 (fun _ _=>trivial) (Gr.ofExt (Same.ext s1))
 have st1:aT C.K H (upd H p (.lst [])):=My.aN s1
 generalize upd H p (.lst [])=H1 at *
 obtain ⟨H3,e7,b3,h3⟩:=My.iC H1 a (.ext (NDf a o' (ws++[(c,.ref p)])))
 rw [e7]
 have st3:aT C.K H1 H3:=fun t xs z=>b3 t _ (fun y=>by rw [y] at z; rw [show H1 a=some (.tup xs) from z] at ha1; cases ha1) z
 refine q H3 ⟨r1.poke hi G.na G.fa.2 (fun c o n h=>b3 c o n h) st3,g1.poke G.fa.1 fun c o n h=>b3 c o n h,a,ws++[(c,.ref p)],G.sl,⟨o',h3⟩,G.na,G.fa,?_,?_,?_,?_,?_⟩ fun t xs z=>st3 _ _ (st1 _ _ z)
 · intro kv m t e
   rcases Z11.mp m with m | m
   · exact st3 _ _ (st1 _ _ (G.ki kv m t e))
   · cases Z12.mp m
     exact st3 _ _ (st1 _ _ (hc t e))
 · simp [G.ks]
 · rw [Z23]
   refine List.nodup_append.mpr ⟨G.kn,by simp,fun x hx y hy z=>?_⟩
   simp at hy
   subst hy; subst z
   exact hk hx
 · intro j kl h
   by_cases hj:j < kvs.length
   · rw [List.getElem?_append_left hj] at h
     obtain ⟨c',b,xs,i1,i2,i3,i4,i5⟩:=G.inn j kl h
     have nb:b ≠ a:=fun z=>by rw [z,ha] at i2; cases i2
     refine ⟨c',b,xs,by rw [List.getElem?_append_left (by rw [lw]; exact hj)]; exact i1,b3 b _ nb (s1 _ _ i2),i3,i4,(i5.stay (ok':=fun _=>False) st1 fun _ _ o=>o.elim).stay st3 fun _ _ o=>o.elim⟩
   · rw [List.getElem?_append_right (by omega)] at h
     have:j=kvs.length:=by
       rcases Nat.eq_or_lt_of_le (Nat.le_of_not_lt hj) with z | z
       · exact z.symm
       · rw [List.getElem?_eq_none (by simp; omega)] at h; cases h
     subst this
     simp at h
     subst h
     exact ⟨c,p,[],by rw [List.getElem?_append_right (by omega)]; simp [lw],b3 p _ (Ne.symm pa) hl,s.r.fresh hp,⟨s.g.none hp,s.r.h0 hp⟩,.nil⟩
 · have old:∀ (j:Nat) (c':KA),ws[j]? ≠ some (c',.ref p):=fun j c' h=>by
     obtain ⟨hj,_⟩:=Z9.mp h
     rw [lw] at hj
     obtain ⟨c2,b,xs,i1,i2,_⟩:=G.inn j _ (Z3 hj)
     rw [h] at i1
     cases i1
     rw [hp] at i2; cases i2
   have get:∀ (j:Nat) (c':KA) (b:Addr),(ws++[(c,V.ref p)])[j]?=some (c',.ref b)->ws[j]?=some (c',.ref b)∨(j=ws.length/\b=p):=fun j c' b h=>by
     by_cases hj:j < ws.length
     · rw [List.getElem?_append_left hj] at h; exact .inl h
     · rw [List.getElem?_append_right (by omega)] at h
       have:j=ws.length:=by
         rcases Nat.eq_or_lt_of_le (Nat.le_of_not_lt hj) with z | z
         · exact z.symm
         · rw [List.getElem?_eq_none (by simp; omega)] at h; cases h
       subst this
       simp at h
       exact .inr ⟨rfl,h.2.symm⟩
   intro i j c1 c2 b h1 h2
   rcases get _ _ _ h1 with h1 | ⟨h1,z1⟩ <;> rcases get _ _ _ h2 with h2 | ⟨h2,z2⟩
   · exact G.nd i j c1 c2 b h1 h2
   · rw [z2] at h1; exact absurd h1 (old _ _)
   · rw [z1] at h2; exact absurd h2 (old _ _)
   · rw [h1,h2]
noncomputable def lC (kvs:List (NK × List D)) (k:NK) (x:D):List (NK × List D):=kvs.map fun kv=>if kv.1=k then (kv.1,kv.2++[x]) else kv
theorem j8 (kvs:List (NK × List D)) (k:NK) (x:D):(lC kvs k x).map (·.1)=kvs.map (·.1):=by
 unfold lC
 rw [Z31]
 refine List.map_congr_left fun kv _=>?_
 show (if kv.1=k then (kv.1,kv.2++[x]) else kv).1=kv.1
 split <;> rfl
theorem Stt.app {Z:Ends} {i:Nat} {tk:TE} {fk:ME} (hk:LE C md tk fk) (s:Stt C md A0 W0 H00 A W ρ σ H kvs) (wa0:∀ a,W0 a->A0 a) {o:Op} {kd hd:D} {k:NK} (e1:fk ρ=some (o,ρ')) (e2:res ρ' o=some kd) (e3:nkD kd=some k) (hi:lB md ρ'=true) (hm:aj md i=.pl) (e4:look ρ' i=some (.d hd)) (e5:D.imm hd=true) (hz:∀ kv ∈ kvs,kv.2.length < sizeLine) (hin:k ∈ kvs.map (·.1))
   (q:∀ H',Stt C md A0 W0 H00 A W ρ' σ H' (lC kvs k hd)->aT C.K H H'->Z.nx σ H'):ii (tBM C.K "list" cO (tOp (jq C.K) (aU 1) tk) (b9 (aU i) eK)) Z σ H:=by
 obtain ⟨a0,ws0,G0⟩:=s.gh
 refine ⟨_,G0.sl,hk A W ρ σ H _ o ρ' s.r e1 fun v1 H1 x1 r1 p1=>.inr (.inr (.inr ?_))⟩
 have s1:=s.ext wa0 x1 r1
 obtain ⟨a,ws,G⟩:=s1.gh
 cases (G0.sl.symm.trans G.sl)
 obtain ⟨c,rfl,rfl,hc⟩:=pY (p1.get r1 e2) e3
 obtain ⟨kl,hkl,ek⟩:=Z18.mp hin
 obtain ⟨j,hj⟩:=List.mem_iff_getElem?.mp hkl
 obtain ⟨c',b,xs,i1,i2,i3,i4,i5⟩:=G.inn j kl hj
 obtain ⟨ob,ha⟩:=G.ha
 have kc:kaK c'=kaK c:=by
   rw [<- ek]
   have:=congrArg (fun l:List NK=>l[j]?) G.ks
   simp only [Z21,hj,i1,Option.map_some] at this
   exact Z27 this
 have vn:valN ws (kaK c)=some (.ref b):=by rw [<- kc]; exact pZ (by rw [G.ks]; exact G.kn) i1
 obtain ⟨w,hw,c3⟩:=r1.slot i _ e4
 rw [hm] at c3
 have ph:RepP C.K H1 (fun _=>False) hd w:=RepP.ofImm e5 (RepP.rep (show RepP C.K H1 (fun b=>¬ A b) hd w from c3))
 refine ⟨a0,ob,ws,kaK c,.ref b,rfl,⟨ha,G.ki⟩,uO hc,vn,.inl ⟨rfl,xs,.inl (.inl i2)⟩,w,hw,b,xs,w,rfl,rfl,i2,?_,?_⟩
 · rw [show xs.length=kl.2.length from i5.length]; exact hz kl hkl
 obtain ⟨H3,e7,b3,h3⟩:=My.iC H1 b (.lst (xs++[w]))
 rw [e7]
 have st3:aT C.K H1 H3:=fun t ys z=>b3 t _ (fun y=>by rw [y] at z; rw [show H1 b=some (.tup ys) from z] at i2; cases i2) z
 have ab:a0 ≠ b:=fun z=>by rw [z,i2] at ha; cases ha
 refine q H3 ⟨r1.poke hi i3 i4.2 (fun c o n h=>b3 c o n h) st3,s1.g.poke i4.1 fun c o n h=>b3 c o n h,a0,ws,G.sl,⟨ob,b3 _ _ ab ha⟩,G.na,G.fa,fun kv m t e=>st3 _ _ (G.ki kv m t e),by rw [j8]; exact G.ks,by rw [j8]; exact G.kn,?_,G.nd⟩ fun t xs z=>st3 _ _ (x1.stayT s.r.wk _ _ z)
 intro i kl' h
 unfold lC at h
 rw [Z21,Option.map_eq_some_iff] at h
 obtain ⟨kv,h1,rfl⟩:=h
 by_cases ij:i=j
 · subst ij
   rw [hj] at h1
   cases h1
   refine ⟨c',b,xs++[w],i1,h3,i3,i4,?_⟩
   rw [if_pos ek]
   exact (i5.stay st3 fun _ _ o=>o.elim).append (.cons (ph.stay st3 fun _ _ o=>o.elim) .nil)
 · have nk:kv.1 ≠ kaK c:=fun z=>by
     refine ij ?_
     have h2:(kvs.map (·.1))[i]?=some (kaK c):=by rw [Z21,h1]; exact congrArg some z
     have h3:(kvs.map (·.1))[j]?=some (kaK c):=by rw [Z21,hj]; exact congrArg some ek
     obtain ⟨l2,g2⟩:=Z9.mp h2
     obtain ⟨l3,g3⟩:=Z9.mp h3
     exact (List.getElem?_inj l2 G.kn).mp (h2.trans h3.symm)
   rw [if_neg nk]
   obtain ⟨c2,b2,ys,k1,k2,k3,k4,k5⟩:=G.inn i kv h1
   exact ⟨c2,b2,ys,k1,b3 b2 _ (fun z=>ij (by rw [z] at k1; exact G.nd i j c2 c' b k1 i1)) k2,k3,k4,k5.stay st3 fun _ _ o=>o.elim⟩
theorem Stt.run {Z:Ends} {t:TS} {f:MS} (hs:LS C md t f) (s:Stt C md A0 W0 H00 A W ρ σ H kvs) (wa0:∀ a,W0 a->A0 a) (hm:aj md 1=.lk) (e:f ρ=some (.nx,ρ')) (q:∀ A' W' σ' H',Stt C md A0 W0 H00 A' W' ρ' σ' H' kvs->aT C.K H H'->Z.nx σ' H'):t Z σ H:=
 hs A W ρ σ H Z .nx ρ' s.r e fun A' W' σ' H' g r' f'=>q A' W' σ' H' (s.grow wa0 g r' (f' 1 (.inl hm))) (g.ext.stayT s.r.wk)
end
noncomputable def mNx:Option (Fl × En)->Option En
 | some (.nx,ρ)=>some ρ
 | _=>none
theorem iZ {o:Option (Fl × En)} {ρ:En} (h:mNx o=some ρ):o=some (.nx,ρ):=by
 cases o with
 | some x=>
   obtain ⟨fl,ρ1⟩:=x
   cases fl with
   | nx=>cases h; rfl
   | _=>cases h
 | _=>cases h
noncomputable def dS:Option S->Option D
 | some (.d x)=>some x
 | _=>none
theorem hU {o:Option S} {x:D} (h:dS o=some x):o=some (.d x):=by
 cases o with
 | some y=>
   cases y with
   | d z=>cases h; rfl
   | _=>cases h
 | _=>cases h
noncomputable def hV (fk:ME) (y:Bool × En):Option (En × NK):=
 if y.1=true then some (y.2,none) else (fk y.2).bind fun o=>(res o.2 o.1).bind fun kd=>(nkD kd).bind fun k=>some (o.2,k)
noncomputable def gD (kvs:List (NK × List D)) (k:NK):List (NK × List D):=kvs++[(k,[])]
noncomputable def dE (md:List Md) (fw:MS) (fc:MT) (fk:ME) (fa:MS) (d:D) (x:En × List (NK × List D)):Option (En × List (NK × List D)):=
 (mNx (fw (x.1.set 3 (some (.d d))))).bind fun ρ2=>(dS (look ρ2 3)).bind fun hd=>(nkD hd).bind fun key=>
 if lB md ρ2=true/\x.2.length < sizeLine/\key ∉ x.2.map (·.1) then
   (fc ρ2).bind fun y=>(hV fk y).bind fun z=>(dS (look z.1 3)).bind fun h2=>
   if D.imm h2=true/\lB md z.1=true/\z.2 ∈ (gD x.2 key).map (·.1)/\∀ kv ∈ gD x.2 key,kv.2.length < sizeLine then
     (mNx (fa z.1)).bind fun ρ5=>some (ρ5,lC (gD x.2 key) z.2 h2)
   else none
 else none
noncomputable def j9 (f:D->En × List (NK × List D)->Option (En × List (NK × List D))):List D->En × List (NK × List D)->Option (En × List (NK × List D))
 | [],x=>some x
 | d::r,x=>(f d x).bind (j9 f r)
noncomputable def lD (md:List Md) (fn fw:MS) (fc:MT) (fk:ME) (fa:MS):MS:=fun ρ=>
 if 1 < ρ.length/\(look ρ 1).isNone=true then
   (mNx (fn ρ)).bind fun ρ1=>(dS (look ρ1 0)).bind fun h=>(uA h).bind fun l=>if D.immL l=true then
     (j9 (dE md fw fc fk fa) l (ρ1,[(none,[])])).bind fun x=>if (look x.1 1).isNone=true then some (.ret (.dn (x.2.map fun kv=>(kv.1,.lst kv.2))),x.1) else none
   else none
 else none
section
variable {C:Cn} {md:List Md} {A0 W0 A W A' W':Addr->Prop} {ρ ρ':En} {σ σ':L2.St} {H00 H H':Hp} {kvs:List (NK × List D)}
theorem ka {t u:TS} {Z:Ends} {σ:L2.St} {H:Hp} (h:t { Z with nx:=u Z } σ H):fV t u Z σ H:=h
theorem Dx {c:TT} {t u:TS} {Z:Ends} {σ:L2.St} {H:Hp} (h:c σ H fun b H1=>if b=true then t Z σ H1 else u Z σ H1):sv c t u Z σ H:=h
theorem uQ {tw ta:TS} {tc:TT} {tk:TE} {fw fa:MS} {fc:MT} {fk:ME} {Z:Ends} (hw:LS C md tw fw) (hc:LT C md tc fc) (hk:LE C md tk fk) (ha:LS C md ta fa) (m1:aj md 1=.lk) (m3:aj md 3=.pl) (wa0:∀ a,W0 a->A0 a)
   (s:Stt C md A0 W0 H00 A W ρ σ H kvs) {d:D} {v:V} (pv:RepP C.K H (fun b=>¬ A b) d v) {x':En × List (NK × List D)} (e:dE md fw fc fk fa d (ρ,kvs)=some x')
   (q:∀ A' W' σ' H',Stt C md A0 W0 H00 A' W' x'.1 σ' H' x'.2->aT C.K H H'->Z.nx σ' H') :
   dg 3 v σ H fun σ2 H2=>fV tw (fV (kL (nT eK) (kK (aU 1) (aU 3) iF)) (fV (sv tc (ii (tBM C.K "list" cO (tOp (jq C.K) (aU 1) (tC V.non)) (b9 (aU 3) eK))) (ii (tBM C.K "list" cO (tOp (jq C.K) (aU 1) tk) (b9 (aU 3) eK)))) ta)) Z σ2 H2:=by
 unfold dE at e
 simp -iota only [Z0] at e
 obtain ⟨ρ2,e1,hd,e2,key,e3,e4⟩:=e
 split at e4
 rotate_left
 · cases e4
 rename_i hz
 simp -iota only [Z0] at e4
 obtain ⟨y,e5,z,e6,h2,e7,e8⟩:=e4
 split at e8
 rotate_left
 · cases e8
 rename_i hz2
 simp -iota only [Z0] at e8
 obtain ⟨ρ5,e9,e10⟩:=e8
 cases e10
 refine kX (fx:=de md) m3 (by unfold de; rw [m3]; nofun) A W ρ σ H v d _ _ s.r pv rfl fun σ1 H1 x1 r1 f1=>?_
 have s1:=s.grow wa0 (Gr.ofExt x1) r1 (f1 1 (.inl m1))
 have t1:aT C.K H H1:=x1.stayT s.r.wk
 refine ka ?_
 refine s1.run hw wa0 m1 (iZ e1) fun A2 W2 σ2 H2 s2 t2=>?_
 refine ka ?_
 refine s2.put wa0 hz.1 m3 (hU e2) e3 hz.2.1 hz.2.2 fun H3 s3 t3=>?_
 refine ka (Dx ?_)
 refine hc A2 W2 ρ2 σ2 H3 _ y.1 y.2 s3.r e5 fun H4 x4 r4=>?_
 have s4:=s3.ext wa0 x4 r4
 have t4:aT C.K H3 H4:=x4.stayT s3.r.wk
 have fin:∀ H5,Stt C md A0 W0 H00 A2 W2 z.1 σ2 H5 (lC (gD kvs key) z.2 h2)->aT C.K H4 H5->ta Z σ2 H5:=fun H5 s5 t5=>
   s5.run ha wa0 m1 (iZ e9) fun A6 W6 σ6 H6 s6 t6=>q A6 W6 σ6 H6 s6 fun a xs h=>t6 _ _ (t5 _ _ (t4 _ _ (t3 _ _ (t2 _ _ (t1 _ _ h)))))
 unfold hV at e6
 obtain ⟨b,ρ3⟩:=y
 cases b with
 | true=>
   cases e6
   exact kQ (s4.app (tU .non fun _ _=>du) wa0 (o:=.val .non) rfl rfl rfl hz2.2.1 m3 (hU e7) hz2.1 hz2.2.2.2 hz2.2.2.1 fin)
 | false=>
   simp only [Z47,if_false,Z0] at e6
   obtain ⟨o,g1,kd,g2,k,g3,g4⟩:=e6
   cases g4
   exact kP (s4.app hk wa0 g1 g2 g3 hz2.2.1 m3 (hU e7) hz2.1 hz2.2.2.2 hz2.2.2.1 fin)
theorem R.setHid {i:Nat} {v:V} (r:R C md A W ρ σ H) (h:look ρ i=none):R C md A W ρ (σ.set i (some v)) H where
 len:=by rw [Z32]; exact r.len
 wa:=r.wa
 ak:=r.ak
 base:=r.base
 wf:=r.wf
 ma:=r.ma
 fo:=r.fo
 slot:=fun j s e=>by
   have n:i ≠ j:=fun z=>by rw [z,e] at h; cases h
   obtain ⟨w,e1,h1⟩:=r.slot j s e
   exact ⟨w,by rw [aC n]; exact e1,h1⟩
 inj:=fun j k s s' a hjk m1 m2 e1 e2 i1 i2 l1 l2=>by
   have n1:i ≠ j:=fun z=>by rw [z,e1] at h; cases h
   have n2:i ≠ k:=fun z=>by rw [z,e2] at h; cases h
   rw [aC n1] at l1
   rw [aC n2] at l2
   exact r.inj j k s s' a hjk m1 m2 e1 e2 i1 i2 l1 l2
theorem kb {α:Type} {o:Option α} (h:o.isNone=true):o=none:=by
 cases o with
 | none=>rfl
 | some _=>cases h
inductive RgI (C:Cn) (md:List Md) (A0 W0:Addr->Prop) (H00:Hp) (t:Addr) (l:List D) (xs:List V) (f:D->En × List (NK × List D)->Option (En × List (NK × List D))) (out:En × List (NK × List D)) (i m:Nat) (σ:L2.St) (H:Hp):Prop
 | mk:∀ A W x,Stt C md A0 W0 H00 A W x.1 σ H x.2->SqT C.K H t xs->RepPL C.K H (fun _=>False) l xs->j9 f (l.drop i) x=some out->m=l.length - i->RgI C md A0 W0 H00 t l xs f out i m σ H
theorem uR {mdL:List Md} {tn tw ta:TS} {tc:TT} {tk:TE} {fn fw fa:MS} {fc:MT} {fk:ME} (hn:LS C mdL tn fn) (hw:LS C mdL tw fw) (hc:LT C mdL tc fc) (hk:LE C mdL tk fk) (ha:LS C mdL ta fa)
   (m0:aj mdL 0=.pl) (m1:aj mdL 1=.lk) (m3:aj mdL 3=.pl) (mm:∀ i,i ≠ 1->aj mdL i=aj md i) (mh:∀ i,¬ de md i) :
   LS C md (fV (kL (tR (tC V.non) (nT eK)) (dg 1)) (fV tn (fV (Ad (wr C.K (aU 0)) (dg 3) (fV tw (fV (kL (nT eK) (kK (aU 1) (aU 3) iF)) (fV (sv tc (ii (tBM C.K "list" cO (tOp (jq C.K) (aU 1) (tC V.non)) (b9 (aU 3) eK))) (ii (tBM C.K "list" cO (tOp (jq C.K) (aU 1) tk) (b9 (aU 3) eK)))) ta)))) (nK (aU 1))))) (lD mdL fn fw fc fk fa):=by
 intro A W ρ σ H Z fl ρ' r e k
 unfold lD at e
 split at e
 rotate_left
 · cases e
 rename_i hz
 simp -iota only [Z0] at e
 obtain ⟨ρ1,e1,h,e2,l,e3,e4⟩:=e
 split at e4
 rotate_left
 · cases e4
 rename_i hl
 simp -iota only [Z0] at e4
 obtain ⟨x,e5,e6⟩:=e4
 split at e6
 rotate_left
 · cases e6
 rename_i hx
 cases e6
 cases jW e3
 have n1:=kb hz.2
 refine ka ?_
 intro p ob hp
 refine ⟨Z30 _,fun q hq=>?_⟩
 have pq:q ≠ p:=fun z=>by rw [z,ar] at hq; cases hq
 refine ⟨.ref q,ob,rfl,by rw [au (Ne.symm pq)]; exact ar,fun o'=>?_⟩
 have hq0:H q=none:=by rw [au pq] at hq; exact hq
 have h3p:(upd (upd (upd H p (.ext (NDf p ob []))) q (.lst [])) p (.ext (NDf p o' [(none,.ref q)]))) p=some (.ext (NDf p o' [(none,.ref q)])):=ar
 have h3q:(upd (upd (upd H p (.ext (NDf p ob []))) q (.lst [])) p (.ext (NDf p o' [(none,.ref q)]))) q=some (.lst []):=by rw [au pq]; exact ar
 have s3:Same H (upd (upd (upd H p (.ext (NDf p ob []))) q (.lst [])) p (.ext (NDf p o' [(none,.ref q)]))):=fun b u hb=>by
   rw [au (fun z=>by rw [z,hp] at hb; cases hb),au (fun z=>by rw [z,hq0] at hb; cases hb),au (fun z=>by rw [z,hp] at hb; cases hb)]
   exact hb
 generalize upd (upd (upd H p (.ext (NDf p ob []))) q (.lst [])) p (.ext (NDf p o' [(none,.ref q)]))=H3 at h3p h3q s3
 have rL:R C mdL A W ρ (σ.set 1 (some (.ref p))) H3:=((r.same s3).setHid n1).remode fun i s ei=>mm i fun z=>by rw [z,n1] at ei; cases ei
 have st:Stt C mdL A W H A W ρ (σ.set 1 (some (.ref p))) H3 [(none,[])]:=by
   refine ⟨rL,Gr.ofExt (Same.ext s3),p,[(none,.ref q)],br (by rw [r.len]; exact hz.1),⟨o',h3p⟩,r.fresh hp,⟨.inl hp,r.h0 hp⟩,fun kv m t et=>?_,rfl,by simp,fun j kl hj=>?_,fun i j c c' b h1 h2=>?_⟩
   · cases Z12.mp m; cases et
   · cases j with
     | zero=>simp at hj; subst hj; exact ⟨none,q,[],rfl,h3q,r.fresh hq0,⟨.inl hq0,r.h0 hq0⟩,.nil⟩
     | succ j=>simp at hj
   · cases i with
     | zero=>
       cases j with
       | zero=>rfl
       | succ j=>simp at h2
     | succ i=>simp at h1
 show fV tn _ Z (σ.set 1 (some (.ref p))) H3
 refine ka ?_
 refine st.run hn r.wa m1 (iZ e1) fun A2 W2 σ2 H2 s2 t2=>?_
 refine ka ?_
 obtain ⟨v0,ev,c0⟩:=s2.r.slot 0 _ (hU e2)
 rw [m0] at c0
 replace c0:RepP C.K H2 (fun b=>¬ A2 b) (.tup l) v0:=c0
 rw [RepP] at c0
 obtain ⟨t,xs,rfl,ht,pl⟩:=c0
 refine ⟨_,ev,.inr ⟨⟨xs,ht⟩,RgI C mdL A W H t l xs (dE mdL fw fc fk fa) x,⟨_,A2,W2,(ρ1,[(none,[])]),s2,ht,RepPL.ofImm hl pl.repL,e5,rfl⟩,?_⟩⟩
 rintro i m σ5 H5 ⟨A5,W5,y,s5,ht5,pl5,e7,rfl⟩
 cases ed:l.drop i with
 | nil=>
   rw [ed] at e7
   cases e7
   have li:l.length<=i:=by
     have:=congrArg List.length ed
     simp at this
     omega
   refine .inl ⟨⟨xs,ht5,by rw [pl5.length]; exact li⟩,?_⟩
   obtain ⟨a,ws,G⟩:=s5.gh
   refine ⟨_,G.sl,?_⟩
   have nx:=kb hx
   refine k A5 W5 σ5 (.ref a) H5 s5.g (s5.r.remode fun i s ei=>(mm i fun z=>by rw [z,nx] at ei; cases ei).symm) (fun j hj=>absurd hj (mh j)) (.inl ?_)
   refine ⟨a,ws,rfl,G.fa.2,G.ha,?_,G.ki,?_⟩
   · rw [G.ks,Z31]; rfl
   · have key:∀ (kvs:List (NK × List D)) (ws:List (KA × V)),ws.length=kvs.length->(∀ (j:Nat) (kl:NK × List D),kvs[j]?=some kl->∃ c b xs,ws[j]?=some (c,.ref b)/\H5 b=some (.lst xs)/\(C.H0 b=none/\b ≠ a)/\RepPL C.K H5 (fun _=>False) kl.2 xs)->RepPL C.K H5 (fun b=>C.H0 b=none/\b ≠ a) (kvs.map fun kv=>D.lst kv.2) (ws.map (·.2)):=by
       intro kvs
       induction kvs with
       | nil=>intro ws hw _; cases ws with
         | nil=>exact .nil
         | cons _ _=>cases hw
       | cons kl r ih=>
         intro ws hw hi
         cases ws with
         | nil=>cases hw
         | cons w ws=>
           obtain ⟨c,b,zs,j1,j2,j3,j4⟩:=hi 0 kl rfl
           simp at j1
           subst j1
           refine .cons ?_ (ih ws (by simpa using hw) fun j kl hj=>hi (j+1) kl hj)
           rw [RepP]
           exact ⟨b,zs,rfl,j2,j3,j4.mono fun _ _ o=>o.elim⟩
     rw [Z31]
     refine key _ ws (by simpa using congrArg List.length G.ks) fun j kl hj=>?_
     obtain ⟨c,b,zs,j1,j2,j3,j4,j5⟩:=G.inn j kl hj
     obtain ⟨ob,ha⟩:=G.ha
     exact ⟨c,b,zs,j1,j2,⟨j4.2,fun z=>by rw [z,ha] at j2; cases j2⟩,j5⟩
 | cons d dr=>
   have hd:l[i]?=some d:=by
     have:=congrArg (fun z:List D=>z[0]?) ed
     simpa using this
   have hdr:l.drop (i+1)=dr:=by
     rw [<- List.drop_drop,ed]; rfl
   obtain ⟨hi,_⟩:=Z9.mp hd
   rw [ed] at e7
   unfold j9 at e7
   rw [Z0] at e7
   obtain ⟨y2,e8,e9⟩:=e7
   obtain ⟨v,hv,pv⟩:=pl5.get hd
   refine .inr ⟨⟨xs,v,ht5,hv⟩,fun σ' H'=>∃ m',m' < l.length - i/\RgI C mdL A W H t l xs (dE mdL fw fc fk fa) x (i+1) m' σ' H',fun σ' H' z=>z,?_⟩
   rintro v' H' ⟨rfl,hv'⟩
   have:=hv' xs ht5
   rw [hv] at this
   cases this
   exact uQ (x':=y2) hw hc hk ha m1 m3 r.wa s5 (pv.mono fun _ _ o=>o.elim) e8 fun A6 W6 σ6 H6 s6 t6=>⟨l.length - (i+1),by omega,A6,W6,y2,s6,t6 _ _ ht5,pl5.stay t6 fun _ _ o=>o.elim,by rw [hdr]; exact e9,rfl⟩
end
noncomputable def xT:List D->Option Int
 | .int n::r=>(cv r).map (cg n)
 | _=>none
theorem uS {K:PySem.W.Frag} {H:Hp} {ok:Addr->Prop} {l:List D} {m:Int} {xs:List V} (e:xT l=some m) (r:RepPL K H ok l xs):∃ n ns,xs=(n::ns).map V.int/\m=cg n ns:=by
 cases l with
 | nil=>cases e
 | cons d l=>
   cases d with
   | int n=>
     replace e:(cv l).map (cg n)=some m:=e
     rw [Option.map_eq_some_iff] at e
     obtain ⟨ns,e1,rfl⟩:=e
     obtain ⟨x,t,rfl,h1,h2⟩:=r.cons_inv
     rw [RepP] at h1
     refine ⟨n,ns,?_,rfl⟩
     rw [h1,eY e1 h2]
     rfl
   | _=>cases e
section
variable {C:Cn} {md:List Md}
noncomputable def ke (m:List S->Option S) (f:MA):ME:=fun ρ=>(f ρ).bind fun x=>(dA x.2 x.1).bind fun ss=>(m ss).bind fun s=>(dnS (some s)).bind fun kvs=>(xT (kvs.map (·.2))).bind fun n=>some (.val (.int n),x.2)
theorem xU {t:TA} {f:MA} {m:List S->Option S} {E:XK} (h:LA C md t f):LE C md (tCB zC (b9 (zB (gJ (spP C.K m) [] E t)) eK)) (ke m f):=by
 intro A W ρ σ H Q o ρ' r e k
 unfold ke at e
 simp -iota only [Z0] at e
 obtain ⟨⟨os,ρ1⟩,e1,ss,e2,s,e3,kvs,e4,n,e5,e6⟩:=e
 cases e6
 cases dD e4
 refine h A W ρ σ H _ os ρ1 r e1 fun vs H1 x1 r1 p1=>?_
 rw [Z35]
 refine ⟨ss,_,p1.argsA r1 e2,e3,fun v H2 s2 nn=>?_⟩
 obtain ⟨a,ws,rfl,n1,⟨ob,n2⟩,n3⟩:=nn
 obtain ⟨m,ms,w1,rfl⟩:=uS e5 n3.vs
 refine ⟨a,ob,ws,rfl,n2,fun p hp=>?_⟩
 have s3:=aA (o:=.ext (VVf p a)) hp
 refine ⟨p,a,ob,ws,m,ms,rfl,ar,s3 _ _ n2,w1,k _ _ (x1.trans ((Same.ext s2).trans (Same.ext s3))) ((r1.same s2).same s3) ?_⟩
 exact az (K:=C.K) (H:=upd H2 p (.ext (VVf p a))) (ok:=fun a=>¬ A a)
end
theorem Ev.maxC {m:List S->Option S} {f:MA} {os:List Op} {ss:List S} {kvs:List (NK × D)} {n:Int} {ρ ρ1:En} (h1:f ρ=some (os,ρ1)) (h2:dA ρ1 os=some ss) (h3:m ss=some (.dn kvs)) (h4:xT (kvs.map (·.2))=some n):ke m f ρ=some (.val (.int n),ρ1):=by
 unfold ke
 simp only [h1,h2,h3,h4,dnS,Z1]
section
variable {C:Cn} {md:List Md} {A W:Addr->Prop} {ρ:En} {σ:L2.St} {H:Hp}
theorem R.dead (r:R C md A W ρ σ H) (i:Nat) (v:Option V):R C md A W (ρ.set i none) (σ.set i v) H:=by
 have hz:∀ {j:Nat} {s:S},look (ρ.set i none) j=some s->i ≠ j∨ρ.length<=i:=fun {j s} h=>by
   by_cases e:i=j
   · subst e
     by_cases hl:i < ρ.length
     · rw [aV hl] at h; cases h
     · exact .inr (by omega)
   · exact .inl e
 have hs:∀ {j:Nat} {s:S},look (ρ.set i none) j=some s->(σ.set i v)[j]?=σ[j]?:=fun {j s} h=>by
   rcases hz h with e | e
   · exact aC e
   · rw [List.set_eq_of_length_le (by rw [r.len]; exact e)]
 refine ⟨by rw [Z32,Z32]; exact r.len,r.wa,r.ak,r.base,r.wf,r.ma,r.fo,fun j s h=>?_,fun j k s s' a n m1 m2 e1 e2 z1 z2 y1 y2=>?_⟩
 · obtain ⟨u,h1,h2⟩:=r.slot j s (bR h)
   exact ⟨u,by rw [hs h]; exact h1,h2⟩
 · rw [hs e1] at y1
   rw [hs e2] at y2
   exact r.inj j k s s' a n m1 m2 (bR e1) (bR e2) z1 z2 y1 y2
end
noncomputable def mAsgTO (m:List S->Option S) (f:MA) (i j:Nat):MS:=fun ρ=>(f ρ).bind fun x=>(dA x.2 x.1).bind fun ss=>(m ss).bind fun r=>(toS r).bind fun l=>some (.nx,(x.2.set i (some (.d (.lst l)))).set j none)
where toS:S->Option (List D)
 | .d (.tup [.lst l,_])=>if D.immL l=true then some l else none
 | _=>none
theorem uT {r:S} {l:List D} (h:mAsgTO.toS r=some l):D.immL l=true/\∃ d,r=.d (.tup [.lst l,d]):=by
 unfold mAsgTO.toS at h
 split at h
 · split at h
   · cases h
     rename_i hi
     exact ⟨hi,_,rfl⟩
   · cases h
 · cases h
theorem uU {C:Cn} {md:List Md} {t:TA} {f:MA} {m:List S->Option S} {E:XK} {i j:Nat} (hi:aj md i=.ow) (hj:aj md j=.pl) (h:LA C md t f):LS C md (kL (gJ (spP C.K m) [] E t) (lZ C.K 2 (jy (dg i) (jy (dg j) sw)))) (mAsgTO m f i j):=by
 intro A W ρ σ H D fl ρ' r e k
 unfold mAsgTO at e
 simp -iota only [Z0] at e
 obtain ⟨⟨os,ρ1⟩,e1,ss,e2,s0,e3,l,e4,e5⟩:=e
 cases e5
 obtain ⟨im,d,rfl⟩:=uT e4
 refine h A W ρ σ H _ os _ r e1 fun vs H1 x1 r1 p1=>?_
 rw [Z35]
 refine ⟨ss,_,p1.argsA r1 e2,e3,fun v H2 s2 n=>?_⟩
 have p:=n.repP
 rw [RepP] at p
 obtain ⟨b,xs,rfl,q1,q2⟩:=p
 obtain ⟨v1,r2,rfl,pv,pr⟩:=q2.cons_inv
 obtain ⟨v2,r3,rfl,pv2,pr2⟩:=pr.cons_inv
 obtain rfl:=pr2.nil_inv
 rw [RepP] at pv
 obtain ⟨a,ys,rfl,h1,h2,h3⟩:=pv
 refine ⟨b,_,rfl,q1,rfl,_,_,rfl,_,_,rfl,rfl,?_⟩
 obtain ⟨A2,W2,g2,r2⟩:=r1.setN hi (s:=.d (.lst l)) h2 s2 ⟨ys,h1,RepPL.ofImm im h3.repL⟩
 refine k A2 W2 _ H2 ((Gr.ofExt x1).trans r.wa (fun _ _=>trivial) g2) (r2.dead j _) fun q fq=>?_
 rw [aC (fun z=>by rcases fq with fq | fq <;> (rw [<- z,hj] at fq; cases fq)),aC (fun z=>by rcases fq with fq | fq <;> (rw [<- z,hi] at fq; cases fq))]
theorem Ev.asgTO {m:List S->Option S} {f:MA} {i j:Nat} {os:List Op} {ss:List S} {l:List D} {d:D} {ρ ρ1 ρ2:En} (h1:f ρ=some (os,ρ1)) (h2:dA ρ1 os=some ss) (h3:m ss=some (.d (.tup [.lst l,d]))) (h4:D.immL l=true) (h5:(ρ1.set i (some (.d (.lst l)))).set j none=ρ2):mAsgTO m f i j ρ=some (.nx,ρ2):=by
 unfold mAsgTO
 subst h5
 simp only [h1,h2,h3,mAsgTO.toS,Z1,if_pos h4]
noncomputable def kg (j:Nat):MI:=fun ρ=>(mK (look ρ j)).bind fun l=>some (iW l,ρ)
theorem xV {C:Cn} {md:List Md} {j:Nat} (hm:aj md j ≠ .pl):LI C md (some j) (pW C.K (b9 (aU j) eK)) (kg j):=by
 intro A W ρ σ H Q ds ρ' r e k
 unfold kg at e
 simp -iota only [Z0] at e
 obtain ⟨l,e1,e2⟩:=e
 cases e2
 have e1:=dX e1
 obtain ⟨w,ew,c⟩:=r.slot j _ e1
 obtain ⟨ok,okq,c⟩:=c.cell hm
 obtain ⟨a,xs,rfl,h1,h2,h3,h4⟩:=c
 exact ⟨_,ew,a,rfl,⟨xs,.inl (.inl h1)⟩,k _ H (Ext.refl _ _) r fun W2 hw hl=>pX r hw h1 (hl j a _ rfl hm e1 rfl ew) h4⟩
theorem Ev.enuO {j:Nat} {l:List D} {ρ:En} (h:look ρ j=some (.d (.lst l))):kg j ρ=some (Mir.iW l,ρ):=by
 unfold kg; (simp -iota only [h,mK,Z1]; exact rfl)
end Mir
namespace Mir
open PySem L2
theorem bM {n:Nat} (h:n < 1000000):n < sizeLine:=Z15 h (by decide)
theorem xW (i:Int):cp (some (.int i))=some (.int i):=rfl
theorem BH (i:Bool):cp (some (.bl i))=some (.bl i):=rfl
theorem xX (i:Str):cp (some (.str i))=some (.str i):=rfl
theorem xY:cp (some .non)=some .non:=rfl
theorem xZ {l:List D} (h:D.immL l=true):cp (some (.tup l))=some (.tup l):=by simp only [cp,D.imm,h,if_true]
theorem m5 {α:Type} {f:α->D} (h:∀ a,D.imm (f a)=true):∀ l:List α,D.immL (l.map f)=true
 | []=>rfl
 | a::l=>by rw [Z6,D.immL,h a,m5 h l]; rfl
theorem BI {l:List D} (h:D.immL l=true):ju (.d (.lst l))=some (.d (.lst l)):=by unfold ju; first | rw [if_pos h] | simp [h]
theorem Ez {i j:Int} (h:0 < j):jt (.int i) (.int j)=some (.int (i % j)):=if_pos h
theorem eB {α:Type} {l:List α} {i:Int} (h:0<=i/\i < l.length):atI l i=l[i.toNat]?:=by
 unfold atI ixN
 rw [if_pos h.1,if_pos h.2]; rfl
theorem uV {l:List Int} {i:Int} (h:0<=i/\i < l.length):atI (l.map D.int) i=some (.int (l.getD i.toNat 0)):=by
 rw [eB (by rw [Z2]; exact h),Z21,Z5]
 have:i.toNat < l.length:=by lia
 rw [Z3 this]; rfl
theorem x0 {v:D} {l:List D} {k:Int} (h:0<=k/\k < l.length):qR (.int k) v (some (.d (.lst l)))=some (.d (.lst (l.set k.toNat v))):=by
 show (ixN l.length k).map _=_
 unfold ixN
 rw [if_pos h.1,if_pos h.2]; rfl
theorem EA (a b:Int):(a == b)=decide (a=b):=by
 by_cases h:a=b
 · subst h; simp
 · simp [h]
theorem eqI (neg:Bool) (i j:Int):eqD 4 neg (.int i) (.int j)=some (.bl (if neg then !decide (i=j) else decide (i=j))):=by
 unfold eqD
 rw [if_pos (by simp [D.depth])]
 simp only [D.e1,D.e2,D.e3,D.e4,D.e5,EA]
theorem x8 (i j:Int):eqD 4 false (.int i) (.int j)=some (.bl (decide (i=j))):=by rw [eqI]; rfl
theorem BJ (i j:Int):eqD 4 true (.int i) (.int j)=some (.bl (!decide (i=j))):=by rw [eqI]; rfl
theorem x9 (i j:Str):eqD 4 false (.str i) (.str j)=some (.bl (decide (i=j))):=by
 unfold eqD
 rw [if_pos (by simp [D.depth])]
 simp [D.e1,D.e2,D.e3,D.e4,D.e5]
 by_cases h:i=j
 · subst h; simp
 · simp [h]
theorem Dy (i j:Str):eqD 4 true (.str i) (.str j)=some (.bl (!decide (i=j))):=by
 have:=x9 i j
 unfold eqD at this ⊢
 rw [if_pos (by simp [D.depth])] at this ⊢
 simp only [Z47,if_false,Option.some.injEq,D.bl.injEq] at this
 simp [this]
theorem bm {α:Type} {f:α->D} {n:Nat} (h:∀ a,D.depth (f a)<=n):∀ l:List α,D.depthL (l.map f)<=n
 | []=>Z30 _
 | a::l=>by
   rw [Z6,D.depthL]
   have:=h a
   have:=bm h l
   grind
theorem uW {l:List D} (h:D.depthL l<=3):eqD 4 true (.lst l) (.lst [])=some (.bl (!l.isEmpty)):=by
 unfold eqD
 rw [if_pos (by rw [D.depth]; lia)]
 cases l <;> rfl
theorem lE {l:List D} (h:D.depthL l<=3):eqD 4 false (.lst l) (.lst [])=some (.bl l.isEmpty):=by
 unfold eqD
 rw [if_pos (by rw [D.depth]; omega)]
 cases l <;> rfl
theorem p7 {α:Type} [DecidableEq α] {f:α->D} (h:∀ a b,D.eq (f a) (f b)=decide (a=b)):∀ l m:List α,D.eqL (l.map f) (m.map f)=decide (l=m)
 | [],[]=>rfl
 | [],b::m=>by simp [D.e6,D.e7,D.e8,D.e9]
 | a::l,[]=>by simp [D.e6,D.e7,D.e8,D.e9]
 | a::l,b::m=>by
   rw [Z6,Z6,D.e7,h,p7 h l m]
   by_cases h1:a=b
   · subst h1
     by_cases h2:l=m
     · subst h2; simp
     · simp [h2]
   · simp [h1]
theorem dF {g:MG} {f:MS} {d:D} {ds:List D} {ρ ρ1 ρ2:En} (hg:g d ρ=some ρ1) (hf:f ρ1=some (.nx,ρ2)):bg g f (d::ds) ρ=bg g f ds ρ2:=by
 simp only [bg,hg,Z1,hf]
theorem uX {α β:Type} {g:MG} {f:MS} {e:α->D} {env:β->En} {step:β->α->β} {P:β->Prop} {l:List α} (hs:∀ b a,a ∈ l->P b->P (step b a)/\∃ ρ1,g (e a) (env b)=some ρ1/\f ρ1=some (.nx,env (step b a))) (b:β) (hb:P b) :
   P (l.foldl step b)/\bg g f (l.map e) (env b)=some (.nx,env (l.foldl step b)):=by
 induction l generalizing b with
 | nil=>exact ⟨hb,rfl⟩
 | cons a l ih=>
   obtain ⟨h1,ρ1,h2,h3⟩:=hs b a (by simp) hb
   obtain ⟨h4,h5⟩:=ih (fun b a ha=>hs b a (by simp [ha])) (step b a) h1
   exact ⟨h4,by rw [Z6,dF h2 h3]; exact h5⟩
theorem ck {α β:Type} {g:MG} {f:MS} {e:α->D} {env:β->En} {l:List α} (P:List α->β->Prop) (hs:∀ pre a post b,l=pre++a::post->P pre b->∃ b',P (pre++[a]) b'/\∃ ρ1,g (e a) (env b)=some ρ1/\f ρ1=some (.nx,env b')) (b:β) (hb:P [] b) :
   ∃ b',P l b'/\bg g f (l.map e) (env b)=some (.nx,env b'):=by
 suffices H:∀ (r pre:List α) (b:β),l=pre++r->P pre b->∃ b',P (pre++r) b'/\bg g f (r.map e) (env b)=some (.nx,env b') by
   obtain ⟨b',h1,h2⟩:=H l [] b rfl hb
   exact ⟨b',by simpa using h1,h2⟩
 intro r
 induction r with
 | nil=>intro pre b _ h; exact ⟨b,by simpa using h,rfl⟩
 | cons a r ih=>
   intro pre b hm h
   obtain ⟨b1,h1,ρ1,h2,h3⟩:=hs pre a r b hm h
   obtain ⟨b',h4,h5⟩:=ih (pre++[a]) b1 (by rw [hm]; simp) h1
   exact ⟨b',by simpa using h4,by rw [Z6,dF h2 h3]; exact h5⟩
noncomputable def ups (lo:Int) (n:Nat):List Int:=(List.range n).map fun (k:Nat)=>lo+(k:Int)
theorem ya (lo:Int) (n:Nat):qV lo n=(ups lo n).map D.int:=by
 unfold qV ups
 rw [Z31]
 rfl
theorem lF {lo:Int} {n:Nat} {j:Int} (h:j ∈ ups lo n):lo<=j/\j < lo+n:=by
 unfold ups at h
 obtain ⟨k,hk,rfl⟩:=Z18.mp h
 have:=List.mem_range.mp hk
 lia
theorem eC (lo:Int) (n:Nat):(ups lo n).length=n:=by simp [ups]
theorem dG (lo:Int) (n:Nat):ups lo (n+1)=ups lo n++[lo+n]:=by simp [ups,List.range_succ]
theorem eD {lo:Int} {n:Nat} {pre post:List Int} {a:Int} (h:ups lo n=pre++a::post):a=lo+pre.length/\pre.length < n/\pre=ups lo pre.length:=by
 have hl:=congrArg List.length h
 rw [eC,Z17,Z58] at hl
 have ha:(ups lo n)[pre.length]?=some a:=by rw [h]; simp
 have hp:pre.length < n:=by lia
 refine ⟨?_,hp,?_⟩
 · unfold ups at ha
   rw [Z21,List.getElem?_range hp] at ha
   simpa using ha.symm
 · have e:pre=(ups lo n).take pre.length:=by rw [h]; simp
   rw [e]
   unfold ups
   rw [List.length_take,Z2,List.length_range,<- List.map_take,List.take_range]
   all_goals rw [Nat.min_eq_left (by omega)]
structure Pot where
 ns:List Int
 i:Int
 r:Int
 m:Int
 hi:0<=i
noncomputable def dr (p:Pot) (n:Int):Int:=(pP p.ns p.i p.r p.m n).1
theorem EB {p:Prop} [Decidable p] (h:p):(!decide p)=false:=by simp [h]
theorem Dz (i j:Int):bB (.int i) (.int j)=some (.int (i+j)):=rfl
theorem DA (i j:Int):js (.int i) (.int j)=some (.int (i - j)):=rfl
theorem ltI (i j:Int):ltD (.int i) (.int j)=some (.bl (decide (i < j))):=rfl
theorem gtI (i j:Int):gtD (.int i) (.int j)=some (.bl (decide (j < i))):=rfl
theorem dH {l:List Int} {i:Int} (h:0<=i/\i < l.length):ixD (.lst (l.map D.int)) (.int i)=some (.int (l.getD i.toNat 0)):=uV h
theorem EC (l:List D):uf [.lst l]=some (.tup l):=rfl
theorem yb (l:List D):bT [.lst l]=some (.int l.length):=rfl
theorem BK (l:List D):bT [.tup l]=some (.int l.length):=rfl
theorem DB {z:Str} (h:z.length < 1000000):bT [.str z]=some (.int z.length):=if_pos (Z38 (bM h))
theorem ED (i:Int):eV (.int i)=some (.int (-i)):=rfl
theorem EE (b:Bool):oq [.bl b]=some (.int (if b=true then 1 else 0)):=rfl
@[reducible] noncomputable def ac (p:Int × Int):D:=.tup [.int p.1,.int p.2]
theorem yc (p q:Int × Int):D.eq (ac p) (ac q)=decide (p=q):=by
 unfold ac
 simp only [D.e1,D.e2,D.e3,D.e4,D.e5,D.e6,D.e7,D.e8,D.e9,Bool.and_true]
 by_cases h:p=q
 · subst h; simp
 · have:¬ (p.1=q.1/\p.2=q.2):=fun z=>h (Prod.ext z.1 z.2)
   simp [h]
   grind
theorem oQ (p:Int × Int):D.depth (ac p)<=3:=by simp [ac,D.depth,D.depthL]
noncomputable def pLe (p q:Int × Int):Bool:=Srt.bL [p.1,p.2] [q.1,q.2]
theorem lG (p q:Int × Int):pLe p q=true ↔ p.1 < q.1∨(p.1=q.1/\p.2<=q.2):=by
 unfold pLe Srt.bL
 simp only [HT.aP,HT.cn]
 by_cases h1:q.1=p.1
 · simp only [if_pos h1]
   by_cases h2:q.2=p.2
   · simp [h2,h1]
   · simp only [if_neg h2,h1]; simp; try omega
 · simp only [if_neg h1]; simp; lia
theorem oR {l:List (Int × Int)} (h:l.length < 64):∃ q:List (Int × Int),q.Perm l/\q.Pairwise (fun a b=>pLe a b=true)/\Srt.gO [.lst (l.map ac)]=some (.lst (q.map ac)):=by
 cases l with
 | nil=>exact ⟨[],List.Perm.refl _,.nil,by unfold Srt.gO; simp [dw,Srt.mV]⟩
 | cons a l=>
   have e1:dw ((a::l).map ac)=none:=rfl
   have e0:(a::l).map ac=((a::l).map fun p=>[p.1,p.2]).map Srt.gy:=by rw [Z31]; rfl
   have e2:Srt.fI ((a::l).map ac)=some ((a::l).map fun p=>[p.1,p.2]):=by
     rw [e0]
     exact Srt.mU _ (by intro k hk; obtain ⟨p,_,rfl⟩:=Z18.mp hk; simp)
   generalize a::l=l at *
   refine ⟨(Srt.iQ (l.map fun p=>[p.1,p.2])).map fun k=>(k.getD 0 0,k.getD 1 0),?_,?_,?_⟩
   · have:=(Srt.bY (l.map fun p=>[p.1,p.2])).map fun k=>(k.getD 0 0,k.getD 1 0)
     rwa [Z31,show (((fun k:List Int=>(k.getD 0 0,k.getD 1 0)) ∘ fun p:Int × Int=>[p.1,p.2]))=id from rfl,List.map_id] at this
   · rw [List.pairwise_map]
     refine (List.pairwise_iff_forall_sublist.mpr ?_)
     intro a b hab
     have hr:=List.pairwise_iff_forall_sublist.mp (Srt.iR (l.map fun p=>[p.1,p.2])) hab
     have ma:=(Srt.bY _).mem_iff.mp (hab.subset (by simp:a ∈ [a,b]))
     have mb:=(Srt.bY _).mem_iff.mp (hab.subset (by simp:b ∈ [a,b]))
     obtain ⟨p,_,rfl⟩:=Z18.mp ma
     obtain ⟨q,_,rfl⟩:=Z18.mp mb
     exact hr
   · unfold Srt.gO
     simp only [e1,e2,Z1,Z2,if_pos h,Option.some.injEq,D.lst.injEq,Z31]
     apply List.map_congr_left
     intro k hk
     obtain ⟨p,_,rfl⟩:=Z18.mp ((Srt.bY _).mem_iff.mp hk)
     rfl
end Mir
namespace Ev
open PySem L2 Mir
noncomputable def eZ {α:Type} (b:Bool) (x y:α):α:=if b=true then x else y
theorem oS {α:Type} {b:Bool} {x y r:α} (h:b=true) (k:x=r):eZ b x y=r:=by rw [h]; exact k
theorem oT {α:Type} {b:Bool} {x y r:α} (h:b=false) (k:y=r):eZ b x y=r:=by rw [h]; exact k
variable {ρ ρ1 ρ2 ρ3 ρ4:En} {md:List Md}
theorem top {α:Type} {x:Option (α × En)} {a:α} (h:x=some (a,ρ1)) (k:ρ1=ρ2):x=some (a,ρ2):=by rw [h,k]
theorem turn {g:MG} {f:MS} {d:D} (h1:g d ρ=some ρ1) (h2:f ρ1=some (.nx,ρ2)) (h3:ρ2=ρ3):∃ ρ1,g d ρ=some ρ1/\f ρ1=some (.nx,ρ3):=⟨ρ1,h1,by rw [h2,h3]⟩
theorem fn {n np:Nat} {mb:MS} {ss:List S} {s s':S} (h1:(if ss.length=np then pN (mb (cZ n ss)) else none)=pN (mb ρ)) (h2:mb ρ=some (.ret s,ρ1)) (h3:s=s'):mFn n np mb ss=some s':=by
 unfold mFn; rw [h1,h2,h3]; rfl
theorem fnM {n np:Nat} {mb:MS} {ss:List S} {s s' s0 s0' s0'':S} (h1:(if ss.length=np then qW (mb (cZ n ss)) else none)=qW (mb ρ)) (h2:mb ρ=some (.ret s,ρ1)) (h3:look ρ1 0=some s0) (h4:iH s0=some s0') (h5:s=s') (h6:s0'=s0''):ld false n np mb ss=some (s',s0''):=by
 unfold ld wV; rw [if_neg (by simp),h1,h2,<- h5,<- h6]; show ((look ρ1 0).bind iH).map _=_; rw [h3,Z1,h4]; rfl
theorem var {i:Nat} {s:S} (h:look ρ i=some s):ae i ρ=some (.var i,ρ):=by unfold ae; rw [h]
theorem c {d:D}:mC d ρ=some (.val d,ρ):=rfl
theorem op {g:D->D->Option D} {fa fb:ME} {x y:Op} {d e u:D} (h1:fa ρ=some (x,ρ1)) (h2:fb ρ1=some (y,ρ2)) (h3:res ρ2 x=some d) (h4:res ρ2 y=some e) (h5:g d e=some u):mOp g fa fb ρ=some (.val u,ρ2):=by
 unfold mOp; simp -iota only [h1,h2,h3,h4,h5,Z1]
theorem un {g:D->Option D} {fa:ME} {x:Op} {d u:D} (h1:fa ρ=some (x,ρ1)) (h3:res ρ1 x=some d) (h5:g d=some u):mUn g fa ρ=some (.val u,ρ1):=by
 unfold mUn; simp -iota only [h1,h3,h5,Z1]
theorem nil:al ρ=some ([],ρ):=rfl
theorem cons {fa:ME} {fr:MA} {x:Op} {xs:List Op} (h1:fa ρ=some (x,ρ1)) (h2:fr ρ1=some (xs,ρ2)):af fa fr ρ=some (x::xs,ρ2):=by
 unfold af; simp -iota only [h1,h2,Z1]
theorem DC:eT ρ []=some []:=rfl
theorem DD {o:Op} {os:List Op} {d:D} {ds:List D} (h1:res ρ o=some d) (h2:eT ρ os=some ds):eT ρ (o::os)=some (d::ds):=by
 unfold eT; simp -iota only [h1,h2,Z1]
theorem DE:stos md ρ []=some []:=rfl
theorem DF {o:Op} {os:List Op} {d:D} {ds:List D} (h1:sto md ρ o=some d) (h2:stos md ρ os=some ds):stos md ρ (o::os)=some (d::ds):=by
 unfold stos; simp -iota only [h1,h2,Z1]
theorem DG:dA ρ []=some []:=rfl
theorem DH {o:Op} {os:List Op} {d:S} {ds:List S} (h1:xg (C1 ρ o)=some d) (h2:dA ρ os=some ds):dA ρ (o::os)=some (d::ds):=by
 unfold dA; simp -iota only [h1,h2,Z1]
theorem cb {g:List D->Option D} {fa:MA} {os:List Op} {ds:List D} {u:D} (h1:fa ρ=some (os,ρ1)) (h2:eT ρ1 os=some ds) (h3:g ds=some u):mCB g fa ρ=some (.val u,ρ1):=by
 unfold mCB; simp -iota only [h1,h2,h3,Z1]
theorem tup {fa:MA} {os:List Op} {ds:List D} (h1:fa ρ=some (os,ρ1)) (h2:stos md ρ1 os=some ds) (h3:ds.length < 1000000):cB md fa ρ=some (.val (.tup ds),ρ1):=by
 unfold cB; simp -iota only [h1,h2,Z1,if_pos (Z38 (bM h3))]
theorem lst {fa:MA} {os:List Op} {ds:List D} (h1:fa ρ=some (os,ρ1)) (h2:stos md ρ1 os=some ds) (h3:ds.length < 1000000):eU md fa ρ=some (.val (.lst ds),ρ1):=by
 unfold eU; simp -iota only [h1,h2,Z1,if_pos (Z38 (bM h3))]
theorem EF {fa:MA} {os:List Op} {ds:List D} (h1:fa ρ=some (os,ρ1)) (h2:stos md ρ1 os=some ds) (h3:ds.length < 1000000):bV md fa ρ=some (.d (.lst ds),ρ1):=by
 unfold bV; simp -iota only [h1,h2,Z1,if_pos (Z38 (bM h3))]
theorem isi {k:String} {fa:ME} {x:Op} {d:D} (h1:fa ρ=some (x,ρ1)) (h2:res ρ1 x=some d):mI k fa ρ=some (.val (.bl (n9 (jL d) k)),ρ1):=by
 unfold mI; simp -iota only [h1,h2,Z1]
theorem DI {m:List S->Option S} {f:MA} {os:List Op} {ss:List S} {d:D} (h1:f ρ=some (os,ρ1)) (h2:dA ρ1 os=some ss) (h3:m ss=some (.d d)):aQ m f ρ=some (.val d,ρ1):=by
 unfold aQ; (simp -iota only [h1,h2,h3,Z1,unD]; exact rfl)
theorem BL {m:List S->Option S} {f:MA} {os:List Op} {ss:List S} {s s':S} (h1:f ρ=some (os,ρ1)) (h2:dA ρ1 os=some ss) (h3:m ss=some s) (h4:ju s=some s'):eg m f ρ=some (s',ρ1):=by
 unfold eg; simp -iota only [h1,h2,h3,h4,Z1]
theorem DJ {i:Nat} {m:List S->Option (S × S)} {f:MA} {os:List Op} {ds:List D} {d:D} {s s0 s0' s1 s1':S} (h0:look ρ i=some s) (h1:f ρ=some (os,ρ1)) (h2:stos md ρ1 os=some ds) (h3:look ρ1 i=some s0) (h4:iH s0=some s0')
   (h5:m (s0'::ds.map S.d)=some (.d d,s1)) (h6:pL s0' s1=some s1') (h7:ρ1.set i (some s1')=ρ2):bu md i m f ρ=some (.val d,ρ2):=by
 unfold bu; (simp -iota only [h0,h1,h2,h3,h4,h5,h6,h7,Z1,unD]; exact rfl)
theorem append {i:Nat} {f:MA} {os:List Op} {d:D} {l0 l:List D} (h0:look ρ i=some (.d (.lst l0))) (h1:f ρ=some (os,ρ1)) (h2:stos md ρ1 os=some [d]) (h3:look ρ1 i=some (.d (.lst l))) (h4:l.length < 1000000) (h5:ρ1.set i (some (.d (.lst (l++[d]))))=ρ2) :
   bc md i f ρ=some (.val .non,ρ2):=by
 unfold bc; rw [h0]; show ((f ρ).bind _)=_; rw [h1,Z1,h2,Z1,h3]; show (if _ then _ else _)=_; rw [if_pos (bM h4),h5]
theorem pop {i:Nat} {l:List D} {d:D} (h0:look ρ i=some (.d (.lst l))) (h1:l[l.length - 1]?=some d) (h2:ρ.set i (some (.d (.lst l.dropLast)))=ρ1):ot i ρ=some (.val d,ρ1):=by
 unfold ot; (simp -iota only [h0,h1,mK,Option.bind_some,h2]; dsimp only; simp -iota only [h0,h1,mK,Option.bind_some,h2])
theorem EG {fa fb:ME} {x:Op} {b:Bool} {r:Option (Op × En)} (h1:fa ρ=some (x,ρ1)) (h2:res ρ1 x=some (.bl b)) (h3:eZ b (fb ρ1) (some (.val (.bl false),ρ1))=r):fE fa fb ρ=r:=by
 unfold fE; simp -iota only [h1,h2,asB,Z1]; exact h3
theorem EH {fa:ME} {x:Op} {b:Bool} (h1:fa ρ=some (x,ρ1)) (h2:res ρ1 x=some (.bl b)):jK fa ρ=some (.val (.bl (!b)),ρ1):=by
 unfold jK; (simp -iota only [h1,h2,asB,Z1]; exact rfl)
theorem oNo:Bq ρ=some (none,ρ):=rfl
theorem DK {f:ME} {x:Op} {i:Int} (h1:f ρ=some (x,ρ1)) (h2:res ρ1 x=some (.int i)):iK f ρ=some (some i,ρ1):=by
 unfold iK; (simp -iota only [h1,h2,asI,Z1]; exact rfl)
theorem join {z:Str} {f:MA} {os:List Op} {ds:List D} {u:D} (h1:f ρ=some (os,ρ1)) (h2:eT ρ1 os=some ds) (h3:uh z ds=some u):mQ z f ρ=some (.val u,ρ1):=by
 unfold mQ; simp -iota only [h1,h2,h3,Z1]
theorem EI {i:Nat} {ns:List Int} (h:look ρ i=some (.scr ns)):jS i ρ=some (.val (.int ns.length),ρ):=by
 unfold jS; (simp -iota only [h,oz,Z1]; exact rfl)
theorem ixS {i:Nat} {f:ME} {x:Op} {j n:Int} {ns0 ns:List Int} (h0:look ρ i=some (.scr ns0)) (h1:f ρ=some (x,ρ1)) (h2:res ρ1 x=some (.int j)) (h3:look ρ1 i=some (.scr ns)) (h4:atI ns j=some n):ui i f ρ=some (.val (.int n),ρ1):=by
 unfold ui; (simp -iota only [h0,h1,h2,h3,h4,oz,asI,Option.bind_some]; dsimp only; simp -iota only [h0,h1,h2,h3,h4,oz,asI,Option.bind_some])
theorem tb {fa:ME} {x:Op} {b:Bool} (h1:fa ρ=some (x,ρ1)) (h2:res ρ1 x=some (.bl b)):mB fa ρ=some (b,ρ1):=by
 unfold mB; (simp -iota only [h1,h2,asB,Z1]; exact rfl)
theorem and {fa fb:MT} {b:Bool} {r:Option (Bool × En)} (h1:fa ρ=some (b,ρ1)) (h3:eZ b (fb ρ1) (some (false,ρ1))=r):om fa fb ρ=r:=by
 unfold om; simp -iota only [h1,Z1]; exact h3
theorem or {fa fb:MT} {b:Bool} {r:Option (Bool × En)} (h1:fa ρ=some (b,ρ1)) (h3:eZ b (some (true,ρ1)) (fb ρ1)=r):mOr fa fb ρ=r:=by
 unfold mOr; simp -iota only [h1,Z1]; exact h3
theorem not {fa:MT} {b:Bool} (h1:fa ρ=some (b,ρ1)):jr fa ρ=some (!b,ρ1):=by
 unfold jr; simp -iota only [h1,Z1]
theorem tru {f:ME} {x:Op} {d:D} {b:Bool} (h1:f ρ=some (x,ρ1)) (h2:res ρ1 x=some d) (h3:Br d=some b):lh f ρ=some (b,ρ1):=by
 unfold lh; simp -iota only [h1,h2,h3,Z1]
noncomputable def c3 (g' g'':D->D->Option D) (y:Op) (fc fd:ME):MT:=fun ρ=>(fc ρ).bind fun z=>(res z.2 y).bind fun e=>(res z.2 z.1).bind fun h=>(g' e h).bind fun u=>(asB u).bind fun b=>
 if b=true then (fd z.2).bind fun w=>(res w.2 z.1).bind fun h=>(res w.2 w.1).bind fun k=>(g'' h k).bind fun u=>(asB u).bind fun b=>some (b,w.2) else some (false,z.2)
theorem BM {g g' g'':D->D->Option D} {fa fb fc fd:ME} {x y:Op} {d e:D} {b:Bool} {r:Option (Bool × En)} (h1:fa ρ=some (x,ρ1)) (h2:fb ρ1=some (y,ρ2)) (h3:res ρ2 x=some d) (h4:res ρ2 y=some e) (h5:g d e=some (.bl b))
   (h6:eZ b (c3 g' g'' y fc fd ρ2) (some (false,ρ2))=r):fF g g' g'' fa fb fc fd ρ=r:=by
 unfold fF; simp -iota only [h1,h2,h3,h4,h5,Z1,show asB (.bl b)=some b from rfl]
 rw [<- h6]; rfl
theorem c3r {g' g'':D->D->Option D} {y z:Op} {fc fd:ME} {e h:D} {b:Bool} {r:Option (Bool × En)} (h1:fc ρ=some (z,ρ1)) (h2:res ρ1 y=some e) (h3:res ρ1 z=some h) (h4:g' e h=some (.bl b))
   (h5:eZ b (mB (mOp g'' (fun _=>some (z,ρ1)) fd) ρ1) (some (false,ρ1))=r):c3 g' g'' y fc fd ρ=r:=by
 unfold c3; simp -iota only [h1,h2,h3,h4,Z1,show asB (.bl b)=some b from rfl]
 rw [<- h5]
 unfold eZ mB mOp
 cases b with
 | false=>rfl
 | true=>
   simp -iota only [if_true,Z1]
   cases fd ρ1 with
   | none=>rfl
   | some w=>
     simp -iota only [Z1]
     cases res w.2 z with
     | none=>rfl
     | some a1=>
       simp -iota only [Z1]
       cases res w.2 w.1 with
       | none=>rfl
       | some a2=>
         simp -iota only [Z1]
         cases g'' a1 a2 <;> rfl
theorem next:bC ρ=some (.nx,ρ):=rfl
noncomputable def after (fl:Fl) (x y:Option (Fl × En)):Option (Fl × En):=match fl with
 | .nx=>x
 | _=>y
theorem uY {f g:MS} {fl:Fl} {r:Option (Fl × En)} (h1:f ρ=some (fl,ρ1)) (h2:after fl (g ρ1) (some (fl,ρ1))=r):av f g ρ=r:=by
 unfold av; simp -iota only [h1,Z1]
 cases fl <;> exact h2
theorem i6 {x y r:Option (Fl × En)} (h:x=r):after .nx x y=r:=h
theorem BN {s:S} {x y r:Option (Fl × En)} (h:y=r):after (.ret s) x y=r:=h
theorem kil {ks:List Nat} {f:MS} {fl:Fl} (h1:f ρ=some (fl,ρ1)) (h2:kill ks ρ1=ρ2):ao ks f ρ=some (fl,ρ2):=by
 unfold ao; simp -iota only [h1,Z1,h2]
theorem drop {f:ME} {x:Op} (h1:f ρ=some (x,ρ1)):cE f ρ=some (.nx,ρ1):=by
 unfold cE; simp -iota only [h1,Z1]
theorem asg {f:ME} {g:MG} {x:Op} {d:D} (h1:f ρ=some (x,ρ1)) (h2:sto md ρ1 x=some d) (h3:g d ρ1=some ρ2):aJ md f g ρ=some (.nx,ρ2):=by
 unfold aJ; simp -iota only [h1,h2,h3,Z1]
theorem EJ {f:MN} {i:Nat} {s:S} (h1:f ρ=some (s,ρ1)) (h2:ρ1.set i (some s)=ρ2):bq f i ρ=some (.nx,ρ2):=by
 unfold bq; simp -iota only [h1,h2,Z1]
theorem ifS {c:MT} {f g:MS} {b:Bool} {r:Option (Fl × En)} (h1:c ρ=some (b,ρ1)) (h2:eZ b (f ρ1) (g ρ1)=r):b8 c f g ρ=r:=by
 unfold b8; simp -iota only [h1,Z1]; exact h2
theorem ret {f:ME} {x:Op} {d d':D} (h1:f ρ=some (x,ρ1)) (h2:res ρ1 x=some d) (h3:cp (some d)=some d'):bO f ρ=some (.ret (.d d'),ρ1):=by
 unfold bO; simp -iota only [h1,h2,h3,Z1]
theorem BO {f:MN} {s s':S} (h1:f ρ=some (s,ρ1)) (h2:ju s=some s'):cf f ρ=some (.ret s',ρ1):=by
 unfold cf; simp -iota only [h1,h2,Z1]
theorem EK {i:Nat} {s s':S} (h1:look ρ i=some s) (h2:ju s=some s'):jM i ρ=some (.ret s',ρ):=by
 unfold jM; simp -iota only [h1,h2,Z1]
theorem par {i j:Nat} {f:MA} {os:List Op} {d e:D} (h1:f ρ=some (os,ρ1)) (h2:stos md ρ1 os=some [d,e]) (h3:(ρ1.set i (some (.d d))).set j (some (.d e))=ρ2):qZ md i j f ρ=some (.nx,ρ2):=by
 unfold qZ; rw [h1,Z1,h2,Z1]; exact h3 ▸ rfl
theorem aug {i:Nat} {g:Int->Int->Int} {f:ME} {x:Op} {a b:Int} (h0:look ρ i=some (.d (.int a))) (h1:f ρ=some (x,ρ1)) (h2:res ρ1 x=some (.int b)) (h3:ρ1.set i (some (.d (.int (g a b))))=ρ2):um i g f ρ=some (.nx,ρ2):=by
 unfold um; simp only [h0,h1,h2,h3,unD,asI,Z1]
theorem EL {fi:MI} {fg:MG} {fb:MS} {l:List D} {r:Option (Fl × En)} (h1:fi ρ=some (l,ρ1)) (h2:bg fg fb l ρ1=r):cq fi fg fb ρ=r:=by
 unfold cq; simp -iota only [h1,Z1]; exact h2
theorem EM {f:MA} {os:List Op} {j:Int} (h1:f ρ=some (os,ρ1)) (h2:eT ρ1 os=some [.int j]) (h3:j < 4611686018427387904/\-4611686018427387904<=j):cY f ρ=some ((ups 0 j.toNat).map D.int,ρ1):=by
 unfold cY; rw [h1,Z1,h2,Z1]; show (if _ then _ else _)=_
 rw [if_pos ⟨by have:=h3.2; omega,by have:=h3.1; omega⟩,ya]
theorem EN {f:ME} {x:Op} {d:D} {l:List D} (h1:f ρ=some (x,ρ1)) (h2:sto md ρ1 x=some d) (h3:Bf d=some l):eM md f ρ=some (l,ρ1):=by
 unfold eM; simp -iota only [h1,h2,h3,Z1]
theorem nop {g:D->D->Option D} {fa fb:ME} {x y:Op} {d e:D} {l:List D} (h1:fa ρ=some (x,ρ1)) (h2:fb ρ1=some (y,ρ2)) (h3:res ρ2 x=some d) (h4:res ρ2 y=some e) (h5:g d e=some (.lst l)):oC g fa fb ρ=some (.d (.lst l),ρ2):=by
 unfold oC; (simp -iota only [h1,h2,h3,h4,h5,Z1]; exact rfl)
theorem dg {i:Nat} {d:D} (h:ρ.set i (some (.d d))=ρ1):ah i d ρ=some ρ1:=by unfold ah; rw [h]
theorem lZ {n:Nat} {g:MGs} {l:List D} (h:l.length=n) (k:g l ρ=some ρ1):bJ n g (.tup l) ρ=some ρ1:=by unfold bJ; simp only [if_pos h]; exact k
theorem sw:bU [] ρ=some ρ:=rfl
theorem jy {f:MG} {g:MGs} {d:D} {ds:List D} (h:f d ρ=some ρ1) (k:g ds ρ1=some ρ2):aD f g (d::ds) ρ=some ρ2:=by unfold aD; simp only [h,Z1]; exact k
theorem kK {x:Nat} {fi:ME} {d i:D} {y:Op} {s0 s:S} {o:Option S} (h0:look ρ x=some s0) (h1:fi ρ=some (y,ρ1)) (h2:res ρ1 y=some i) (h3:look ρ1 x=o) (h4:qR i d o=some s) (h5:ρ1.set x (some s)=ρ2):cD md x fi d ρ=some ρ2:=by
 unfold cD; simp -iota only [h0,h1,h2,h3,h4,h5,Z1]
end Ev
namespace Ev
open PySem L2 Mir
variable {ρ ρ1 ρ2 ρ3 ρ4:En} {md:List Md}
theorem EO {i:Nat} {f:ME} {x:Op} {l:List D} {k:List Key} {kvs0 kvs:List (List Key × D)} {u:D} (h0:look ρ i=some (.dc kvs0)) (h1:f ρ=some (x,ρ1)) (h2:res ρ1 x=some (.tup l)) (h3:da l=some k) (h4:look ρ1 i=some (.dc kvs)) (h5:aM kvs k=some u):iT i f ρ=some (.val u,ρ1):=by
 unfold iT; (simp -iota only [h0,h1,h2,h3,h4,h5,dcS,uA,Option.bind_some]; dsimp only; simp -iota only [h0,h1,h2,h3,h4,h5,dcS,uA,Option.bind_some])
theorem DL {x:Nat} {fa:MA} {d:D} {os:List Op} {ds:List D} {k:List Key} {kvs0 kvs:List (List Key × D)} (h0:look ρ x=some (.dc kvs0)) (h1:fa ρ=some (os,ρ1)) (h2:stos md ρ1 os=some ds) (h3:da ds=some k) (h4:look ρ1 x=some (.dc kvs)) (h5:ds.length < 1000000) (h6:kvs.length < 1000000) (h7:ρ1.set x (some (.dc (gV kvs k d)))=ρ2) :
   iU md x fa d ρ=some ρ2:=by
 unfold iU; (simp -iota only [h0,h1,h2,h3,h4,dcS,Option.bind_some]; dsimp only; simp -iota only [h0,h1,h2,h3,h4,dcS,Option.bind_some])
 rw [if_pos ⟨Z38 (bM h5),bM h6⟩,h7]
theorem BP:stosN md ρ []=some []:=rfl
theorem BQ {o:Op} {os:List Op} {d:D} {ds:List D} (h1:stoN md ρ o=some d) (h2:stosN md ρ os=some ds):stosN md ρ (o::os)=some (d::ds):=by
 unfold stosN; simp -iota only [h1,h2,Z1]
theorem yd {i:Nat} {l:List D} (hm:aj md i=.ow) (h:look ρ i=some (.d (.lst l))) (hi:D.immL l=true):stoN md ρ (.var i)=some (.lst l):=by
 show xy (aj md i) (look ρ i)=_
 rw [hm,h]; exact if_pos hi
theorem EQ {f:MA} {os:List Op} {ds:List D} (h1:f ρ=some (os,ρ1)) (h2:stosN md ρ1 os=some ds) (h3:ds.length < 1000000):mY md f ρ=some (.ret (.d (.tup ds)),ρ1):=by
 unfold mY; simp -iota only [h1,h2,Z1,if_pos (Z38 (bM h3))]
theorem DM:oK ρ=some (.dc [],ρ):=rfl
theorem zD {f:MA} {os:List Op} {i j c:Int} (h1:f ρ=some (os,ρ1)) (h2:eT ρ1 os=some [.int i,.int j,.int c]) (h3:gA i j c):mZ f ρ=some (gQ i c (gP i j c),ρ1):=by
 unfold mZ; rw [h1,Z1,h2,Z1]; show (if _ then _ else _)=_
 rw [if_neg (fun z=>absurd z.2.2.2.2.1 (Int.not_lt.mpr (Int.le_of_lt h3.2.2.2.2.1)))]; exact if_pos h3
theorem comp {nt:Nat} {ix kp:List Nat} {fi:MI} {lp:List D->MB} {l:List D} {ρi ρI:En} {as:List D} (h1:fi ρ=some (l,ρ1)) (h2:jv nt ix ρ1=ρi) (h3:lp l ρi []=some (ρI,as)) (h4:wb kp nt ix ρI ρ1=ρ2):jQ nt ix kp fi lp ρ=some (.val (.lst as),ρ2):=by
 unfold jQ; simp -iota only [h1,h2,h3,h4,Z1]
theorem DN {f:ME} {x:Op} {d:D} {as:List D} (h1:f ρ=some (x,ρ1)) (h2:sto md ρ1 x=some d) (h3:as.length < 1000000):iI md f ρ as=some (ρ1,as++[d]):=by
 unfold iI; simp -iota only [h1,h2,Z1,if_pos (bM h3)]
noncomputable def lH (g:MG) (ft:MT) (fb:MB) (d:D) (ρ:En) (as:List D) (ρ':En) (as':List D):Prop:=∃ ρ1 ρ2 b,g d ρ=some ρ1/\ft ρ1=some (b,ρ2)/\((b=true/\fb ρ2 as=some (ρ',as'))∨(b=false/\ρ'=ρ2/\as'=as))
theorem ye {g:MG} {ft:MT} {fb:MB} {d:D} {ds:List D} {ρ':En} {as as':List D} (h:lH g ft fb d ρ as ρ' as'):lpM g ft fb (d::ds) ρ as=lpM g ft fb ds ρ' as':=by
 obtain ⟨r1,r2,b,h1,h2,h3⟩:=h
 show ((g d ρ).bind fun r1=>(ft r1).bind fun y=>if y.1=true then (fb y.2 as).bind fun z=>lpM g ft fb ds z.1 z.2 else lpM g ft fb ds y.2 as)=_
 simp -iota only [h1,h2,Z1]
 rcases h3 with ⟨rfl,h3⟩ | ⟨rfl,rfl,rfl⟩
 · simp -iota only [if_true,h3,Z1]
 · simp -iota only [Z47,if_false]
theorem BR {α β:Type} {g:MG} {ft:MT} {fb:MB} {e:α->D} {env:β->En} {l:List α} (P:List α->β->List D->Prop) (hs:∀ pre a post b as,l=pre++a::post->P pre b as->∃ b' as',P (pre++[a]) b' as'/\lH g ft fb (e a) (env b) as (env b') as') (b:β) (as:List D) (hb:P [] b as) :
   ∃ b' as',P l b' as'/\lpM g ft fb (l.map e) (env b) as=some (env b',as'):=by
 suffices H:∀ (r pre:List α) (b:β) (as:List D),l=pre++r->P pre b as->∃ b' as',P (pre++r) b' as'/\lpM g ft fb (r.map e) (env b) as=some (env b',as') by
   obtain ⟨b',as',h1,h2⟩:=H l [] b as rfl hb
   exact ⟨b',as',by simpa using h1,h2⟩
 intro r
 induction r with
 | nil=>intro pre b as _ h; exact ⟨b,as,by simpa using h,rfl⟩
 | cons a r ih=>
   intro pre b as hm h
   obtain ⟨b1,as1,h1,h2⟩:=hs pre a r b as hm h
   obtain ⟨b',as',h4,h5⟩:=ih (pre++[a]) b1 as1 (by rw [hm]; simp) h1
   exact ⟨b',as',by simpa using h4,by rw [Z6,ye h2]; exact h5⟩
theorem DO {g:MG} {ft:MT} {fb:MB} {d:D} {as as':List D} (h1:g d ρ=some ρ1) (h2:ft ρ1=some (true,ρ2)) (h3:fb ρ2 as=some (ρ3,as')) (h4:ρ3=ρ4):lH g ft fb d ρ as ρ4 as':=⟨ρ1,ρ2,true,h1,h2,.inl ⟨rfl,by rw [<- h4]; exact h3⟩⟩
theorem DP {g:MG} {ft:MT} {fb:MB} {d:D} {as:List D} (h1:g d ρ=some ρ1) (h2:ft ρ1=some (false,ρ2)) (h4:ρ2=ρ4):lH g ft fb d ρ as ρ4 as:=⟨ρ1,ρ2,false,h1,h2,.inr ⟨rfl,h4.symm,rfl⟩⟩
noncomputable def cw {α:Type} (c:α->Option S):List α->Option S
 | []=>none
 | a::l=>match c a with
   | some s=>some s
   | none=>cw c l
theorem i7 {α:Type} {g:MG} {f:MS} {e:α->D} {ρ:En} {c:α->Option S} {l:List α} (hs:∀ a ∈ l,∃ ρ1,g (e a) ρ=some ρ1/\(match c a with | some s=>∃ ρ2,f ρ1=some (.ret s,ρ2) | none=>f ρ1=some (.nx,ρ))) :
   (∀ s,cw c l=some s->∃ ρ2,bg g f (l.map e) ρ=some (.ret s,ρ2))/\(cw c l=none->bg g f (l.map e) ρ=some (.nx,ρ)):=by
 induction l with
 | nil=>exact ⟨fun s h=>(by cases h),fun _=>rfl⟩
 | cons a l ih=>
   obtain ⟨r1,h1,h2⟩:=hs a (by simp)
   obtain ⟨i1,i2⟩:=ih fun b hb=>hs b (by simp -iota [hb])
   cases e:c a with
   | some s=>
     rw [e] at h2
     obtain ⟨r2,h2⟩:=h2
     refine ⟨fun s' h=>?_,fun h=>by simp -iota [cw,e] at h⟩
     have:s'=s:=by simpa [cw,e] using h.symm
     subst this
     exact ⟨r2,by (simp -iota only [Z6,Mir.bg,h1,Z1,h2]; exact rfl)⟩
   | none=>
     rw [e] at h2
     refine ⟨fun s' h=>?_,fun h=>?_⟩
     · obtain ⟨r2,h3⟩:=i1 s' (by simpa [cw,e] using h)
       exact ⟨r2,by rw [Z6,dF h1 h2]; exact h3⟩
     · rw [Z6,dF h1 h2]; exact i2 (by simpa [cw,e] using h)
end Ev
namespace Mir
open PySem L2
theorem i8 (k j:List Key) (d:D):∀ kvs:List (List Key × D),aM (kvs.map fun kv=>if kv.1=k then (kv.1,d) else kv) j=if j=k then (aM kvs j).map (fun _=>d) else aM kvs j
 | []=>by simp -iota [aM]
 | (k',d')::r=>by
   rw [Z6]
   by_cases e:k'=k
   · simp -iota only [if_pos e,aM]
     by_cases e2:k'=j
     · rw [if_pos e2,if_pos e2,if_pos (by rw [<- e2,e])]; rfl
     · rw [if_neg e2,if_neg e2,i8 k j d r]
   · simp -iota only [if_neg e,aM]
     by_cases e2:k'=j
     · rw [if_pos e2,if_pos e2,if_neg (by rw [<- e2]; exact e)]
     · rw [if_neg e2,if_neg e2,i8 k j d r]
theorem kh (k j:List Key) (d:D):∀ kvs:List (List Key × D),aM kvs k=none->aM (kvs++[(k,d)]) j=if j=k then some d else aM kvs j
 | [],_=>by
   simp -iota only [List.nil_append,aM]
   by_cases e:k=j
   · rw [if_pos e,if_pos e.symm]
   · rw [if_neg e,if_neg (Ne.symm e)]
 | (k',d')::r,h=>by
   simp -iota only [Z51,aM] at h ⊢
   by_cases e:k'=k
   · rw [if_pos e] at h; cases h
   · rw [if_neg e] at h
     by_cases e2:k'=j
     · rw [if_pos e2,if_pos e2,if_neg (by rw [<- e2]; exact e)]
     · rw [if_neg e2,if_neg e2,kh k j d r h]
theorem uZ (kvs:List (List Key × D)) (k j:List Key) (d:D):aM (gV kvs k d) j=if j=k then some d else aM kvs j:=by
 unfold gV
 split
 · rw [i8]
   by_cases e:j=k
   · subst e
     rw [if_pos rfl,if_pos rfl]
     obtain ⟨x,hx⟩:=Option.isSome_iff_exists.mp (by assumption)
     rw [hx]; rfl
   · rw [if_neg e,if_neg e]
 · exact kh k j d kvs (by rename_i h; cases e:aM kvs k with | none=>rfl | some x=>rw [e] at h; simp at h)
theorem u0 (kvs:List (List Key × D)) (k:List Key) (d:D):(gV kvs k d).length<=kvs.length+1:=by
 unfold gV
 split
 · simp
 · simp
theorem rH {P:D->Prop} {kvs:List (List Key × D)} {k:List Key} {d:D} (h:∀ kv ∈ kvs,P kv.2) (hd:P d):∀ kv ∈ gV kvs k d,P kv.2:=by
 intro kv hm
 unfold gV at hm
 split at hm
 · obtain ⟨kv',h1,rfl⟩:=Z18.mp hm
   split
   · exact hd
   · exact h _ h1
 · rcases Z11.mp hm with h1 | h1
   · exact h _ h1
   · have:kv=(k,d):=by simpa using h1
     rw [this]; exact hd
end Mir
namespace Mir
theorem BS {nt:Nat} {ix:List Nat} {ρI ρ:En}:wb [] nt ix ρI ρ=ρ:=rfl
theorem DQ (a b:Int):da [.int a,.int b]=some [Sum.inl a,Sum.inl b]:=rfl
end Mir
namespace Mir
open PySem L2
noncomputable def i9:List Md:=[.pl,.pl,.ow,.pl,.pl]
noncomputable def hX:MS:=av (aJ i9 (ae 4) (cD i9 2 (ae 3))) (ao [3,4] (aJ i9 (ae 3) (cD i9 2 (ae 4))))
noncomputable def p8:MS:=av (ao [0] (bq (oC ue (eU i9 (af (mC (.int (-1))) al)) (ae 0)) 2)) (av (ao [1,3,4] (cq (eM i9 (ae 1)) (bJ 2 (aD (ah 3) (aD (ah 4) bU))) hX)) (jM 2))
noncomputable def oU:List S->Option S:=mFn 5 2 p8
noncomputable def p9:List Md:=[.pl,.pl,.pl,.pl,.pl]
noncomputable def cQ:MS:=ao [4] (b8 (mB (mOp (eqD 4 false) (mOp ixD (ae 0) (mOp ixD (ae 3) (mC (.int 0)))) (mOp ixD (ae 0) (mOp ixD (ae 4) (mC (.int 0)))))) (bO (cB p9 (af (ae 3) (af (ae 4) al)))) (bC))
noncomputable def eE:MS:=ao [2,3,4] (cq (eM p9 (rD (ae 1) Bq (iK (ae 2)))) (ah 4) cQ)
noncomputable def m6:MS:=av (ao [0,1,2,3,4] (cq (jZ p9 (af (ae 1) al)) (bJ 2 (aD (ah 2) (aD (ah 3) bU))) eE)) (bO (mC .non))
noncomputable def rJ:List S->Option S:=mFn 5 2 m6
noncomputable def cI:List Md:=[.pl,.pl,.pl,.pl,.pl,.pl]
noncomputable def fK:MS:=av (ao [5] (aJ cI (mOp jt (mOp bB (mOp bB (mOp bB (mOp eL (ae 3) (ae 3)) (mOp eL (mC (.int 69069)) (ae 3))) (ae 5)) (mC (.int 1))) (mC (.int 2147483629))) (ah 3))) (aJ cI (mOp bB (mOp eL (ae 4) (mC (.int 2147483629))) (ae 3)) (ah 4))
noncomputable def m7:MS:=av (aJ cI (mOp bB (mOp eL (mC (.int 7)) (ae 1)) (mC (.int 5))) (ah 2)) (av (ao [0] (b8 (mB (mOp ltD (ae 1) (jS 0))) (ao [0] (aJ cI (ui 0 (ae 1)) (ah 2))) (bC))) (av (b8 (mB (mOp (eqD 4 false) (mOp jt (ae 2) (mC (.int 3))) (mC (.int 0)))) (cf (bV cI (af (mOp rn (ae 2) (mC (.int 3))) al))) (bC)) (av (ao [1,2] (aJ cI (mOp bB (mOp jt (ae 2) (mC (.int 2147483629))) (mOp eL (mC (.int 40014)) (mOp bB (ae 1) (mC (.int 1))))) (ah 3))) (av (aJ cI (mC (.int 0)) (ah 4)) (av (ao [3,5] (cq (cY (af (mC (.int 9)) al)) (ah 5) fK)) (cf (bV cI (af (ae 4) al))))))))
noncomputable def u3:List S->Option S:=mFn 6 2 m7
noncomputable def qa:List Md:=[.io,.pl,.pl]
noncomputable def qb:MS:=av (aJ qa (mOp jt (mOp ixD (ae 0) (mC (.int 0))) (ae 1)) (ah 2)) (av (ao [1] (aJ qa (mOp rn (mOp ixD (ae 0) (mC (.int 0))) (ae 1)) (cD qa 0 (mC (.int 0))))) (bO (ae 2)))
noncomputable def fL:List S->Option (S × S):=ld false 3 2 qb
noncomputable def DR:List Md:=[.pl]
noncomputable def u4:MS:=bO (fE (mI "int" (ae 0)) (jK (mI "bool" (ae 0))))
noncomputable def oV:List S->Option S:=mFn 1 1 u4
noncomputable def u5:List Md:=[.pl,.pl,.pl]
noncomputable def qc:MS:=av (aJ u5 (mC (.str ("abcdefghijklmnopqrstuvwxyz":Str))) (ah 1)) (av (ao [0] (aJ u5 (iX (ae 1) (ae 0)) (ah 2))) (bO (mOp ixD (ae 1) (mOp js (mOp bB (ae 2) (mC (.int 1))) (mOp eL (mC (.int 2)) (mOp jt (ae 2) (mC (.int 2))))))))
noncomputable def lI:List S->Option S:=mFn 3 1 qc
noncomputable def BT:List Md:=[.pl,.pl,.ow,.pl]
noncomputable def am:List Md:=[.pl,.lk,.ow,.pl]
noncomputable def bD:MS:=cE (ot 2)
noncomputable def lJ:MS:=lD am (bq (bV am al) 2) (bW 100000 (om (mB (mOp (eqD 4 true) (ae 2) (eU am al))) (mB (mOp ltD (mOp ixD (mOp ixD (ae 2) (mUn eV (mC (.int 1)))) (mC (.int 1))) (mOp ixD (ae 3) (mC (.int 0)))))) bD) (mB (mOp (eqD 4 false) (ae 2) (eU am al))) (mOp ixD (ae 2) (mUn eV (mC (.int 1)))) (cE (bc am 2 (af (ae 3) al)))
noncomputable def m8:List S->Option S:=mFn 4 1 lJ
noncomputable def dI:List Md:=[.pl,.pl,.pl,.pl,.pl,.pl,.ow,.ow]
noncomputable def cR:MS:=av (b8 (mB (mOp (eqD 4 false) (mOp ixD (ae 3) (ae 4)) (mC (.int (-1))))) (cE (bc dI 7 (af (ae 4) al))) (av (cE (bc dI 6 (af (cB dI (af (ae 4) (af (mOp ixD (ae 3) (ae 4)) al))) al))) (aJ dI (mOp ixD (ae 3) (ae 4)) (ah 4)))) (um 4 (fun i j=>i+j) (mC (.int 1)))
noncomputable def m9:MS:=av (ao [1] (aJ dI (aQ oU (af (ae 0) (af (ae 1) al))) (ah 3))) (av (ao [0] (qZ dI 4 5 (af (mC (.int 0)) (af (ae 0) al)))) (av (ao [2] (b8 (mB (mOp ly (ae 2) (mC .non))) (ao [2] (qZ dI 4 5 (af (mOp bB (mOp ixD (ae 2) (mC (.int 0))) (mC (.int 1))) (af (mOp ixD (ae 2) (mC (.int 1))) al)))) (bC))) (av (bq (bV dI al) 6) (av (bq (bV dI al) 7) (av (ao [3,4,5] (bW 100000 (mB (mOp ltD (ae 4) (ae 5))) cR)) (mY dI (af (ae 6) (af (ae 7) al))))))))
noncomputable def rK:List S->Option S:=mFn 8 3 m9
noncomputable def cJ:List Md:=[.pl,.pl,.pl,.pl,.ow,.pl,.pl]
noncomputable def hZ:MS:=av (aJ cJ (ae 6) (cD cJ 4 (ae 5))) (ao [5,6] (aJ cJ (ae 5) (cD cJ 4 (ae 6))))
noncomputable def qd:MS:=av (ao [0,1] (bq (eg oU (af (ae 0) (af (ae 1) al))) 4)) (av (ao [2,3,5,6] (cq (eM cJ (cB cJ (af (cB cJ (af (mOp ixD (ae 2) (mC (.int 0))) (af (mOp ixD (ae 3) (mC (.int 1))) al))) (af (cB cJ (af (mOp ixD (ae 3) (mC (.int 0))) (af (mOp ixD (ae 2) (mC (.int 1))) al))) al)))) (bJ 2 (aD (ah 5) (aD (ah 6) bU))) hZ)) (bO (mCB uf (af (jQ 2 [] [] (kg 4) (lpM (bJ 2 (aD (ah 0) (aD (ah 1) bU))) (mB (mOp ltD (ae 0) (ae 1))) (iI (dy cJ 2 [] []) (cB (dy cJ 2 [] []) (af (ae 0) (af (ae 1) al)))))) al))))
noncomputable def u6:List S->Option S:=mFn 7 4 qd
noncomputable def cx:List Md:=[.io,.pl,.ow,.ow,.pl,.pl]
noncomputable def bE:MS:=ao [5] (b8 (om (mB (mOp gtD (ae 4) (mC (.int 0)))) (mOr (mB (mOp (eqD 4 false) (ae 3) (eU cx al))) (mB (mOp ltD (bu cx 0 fL (af (mC (.int 5)) al)) (mOp bB (mC (.int 2)) (mOp jt (mCB bT (af (ae 3) al)) (mC (.int 2)))))))) (av (ao [5] (cE (bc cx 3 (af (ae 5) al)))) (aJ cx (mOp js (ae 4) (mC (.int 1))) (ah 4))) (ao [5] (cE (bc cx 2 (af (cB cx (af (ot 3) (af (ae 5) al))) al)))))
noncomputable def lK:MS:=av (bq (bV cx al) 2) (av (bq (bV cx al) 3) (av (aJ cx (ae 1) (ah 4)) (av (ao [1,3,4,5] (cq (cY (af (mOp eL (mC (.int 2)) (ae 1)) al)) (ah 5) bE)) (bO (mCB uf (af (mCB Srt.gO (af (ae 2) al)) al))))))
noncomputable def nh:List S->Option (S × S):=ld false 6 2 lK
noncomputable def dJ:List Md:=[.io,.pl,.pl,.ow,.pl,.pl]
noncomputable def fM:MS:=av (aJ dJ (mOp ixD (mC (.str ("abcdefghijklmnopqrstuvwxyz":Str))) (bu dJ 0 fL (af (mOp eL (mC (.int 2)) (ae 2)) al))) (cD dJ 3 (ae 4))) (ao [4,5] (aJ dJ (aQ lI (af (mOp ixD (ae 3) (ae 4)) al)) (cD dJ 3 (ae 5))))
noncomputable def lL:MS:=av (bq (oC ue (eU dJ (af (mC (.str ("":Str))) al)) (mOp eL (mC (.int 2)) (mCB bT (af (ae 1) al)))) 3) (av (ao [1,2,4,5] (cq (eM dJ (ae 1)) (bJ 2 (aD (ah 4) (aD (ah 5) bU))) fM)) (bO (mQ ("":Str) (af (ae 3) al))))
noncomputable def ni:List S->Option (S × S):=ld false 6 3 lL
noncomputable def cS:List Md:=[.pl,.pl,.ow,.pl,.pl,.pl,.pl]
noncomputable def cK:MS:=ao [6] (b8 (mB (mOp (eqD 4 false) (mOp ixD (ae 0) (ae 6)) (aQ lI (af (mOp ixD (ae 0) (mOp js (mOp bB (ae 4) (ae 3)) (mC (.int 1)))) al)))) (ao [6] (aJ cS (mOp bB (ae 5) (mOp eL (iT 2 (cB cS (af (ae 4) (af (ae 6) al)))) (iT 2 (cB cS (af (mOp bB (ae 6) (mC (.int 1))) (af (mOp js (mOp bB (ae 4) (ae 3)) (mC (.int 1))) al)))))) (ah 5))) (bC))
noncomputable def dL:MS:=av (aJ cS (mCB oq (af (mOp (eqD 4 false) (ae 3) (mC (.int 0))) al)) (ah 5)) (av (ao [6] (cq (mZ (af (mOp js (mOp bB (ae 4) (ae 3)) (mC (.int 2))) (af (mOp js (ae 4) (mC (.int 1))) (af (mUn eV (mC (.int 2))) al)))) (ah 6) cK)) (ao [4,5] (aJ cS (ae 5) (iU cS 2 (af (ae 4) (af (mOp bB (ae 4) (ae 3)) al))))))
noncomputable def fN:MS:=ao [3,4,5,6] (cq (cY (af (mOp js (mOp bB (ae 1) (mC (.int 1))) (ae 3)) al)) (ah 4) dL)
noncomputable def lM:MS:=av (aJ cS (mCB bT (af (ae 0) al)) (ah 1)) (av (bq (oK) 2) (av (ao [0,3,4,5,6] (cq (cY (af (mOp bB (ae 1) (mC (.int 1))) al)) (ah 3) fN)) (bO (iT 2 (cB cS (af (mC (.int 0)) (af (ae 1) al)))))))
noncomputable def nl:List S->Option S:=mFn 7 1 lM
noncomputable def bw:List Md:=[.pl,.pl,.ow,.pl,.pl,.pl,.pl,.ow,.pl]
noncomputable def dM:MS:=ao [8] (b8 (mB (mOp gtD (mOp ixD (ae 2) (ae 8)) (ae 8))) (ao [8] (cE (bc bw 7 (af (ae 8) al)))) (ao [8] (b8 (mOr (mB (mOp (eqD 4 false) (ae 7) (eU bw al))) (mB (mOp (eqD 4 true) (ot 7) (mOp ixD (ae 2) (ae 8))))) (bO (mC (.bl false))) (bC))))
noncomputable def fO:MS:=av (b8 (mOr (jr (lh (mI "tuple" (ae 4)))) (mOr (mB (mOp (eqD 4 true) (mCB bT (af (ae 4) al)) (mC (.int 2)))) (mOr (jr (lh (aQ oV (af (mOp ixD (ae 4) (mC (.int 0))) al)))) (jr (lh (aQ oV (af (mOp ixD (ae 4) (mC (.int 1))) al))))))) (bO (mC (.bl false))) (bC)) (av (ao [4] (aJ bw (ae 4) (bJ 2 (aD (ah 5) (aD (ah 6) bU))))) (av (ao [3] (b8 (mOr (jr (fF ltD ltD ltD (ae 3) (ae 5) (ae 6) (mCB bT (af (ae 0) al)))) (mOr (mB (mOp gtD (mOp ixD (ae 2) (ae 5)) (mUn eV (mC (.int 1))))) (mOr (mB (mOp gtD (mOp ixD (ae 2) (ae 6)) (mUn eV (mC (.int 1))))) (mB (mOp (eqD 4 true) (mOp ixD (ae 0) (ae 6)) (aQ lI (af (mOp ixD (ae 0) (ae 5)) al))))))) (bO (mC (.bl false))) (bC))) (av (aJ bw (ae 6) (cD bw 2 (ae 5))) (av (ao [6] (aJ bw (ae 5) (cD bw 2 (ae 6)))) (ao [5] (aJ bw (ae 5) (ah 3)))))))
noncomputable def lN:MS:=av (b8 (mOr (jr (lh (mI "tuple" (ae 1)))) (mB (mOp (eqD 4 true) (mOp eL (mC (.int 2)) (mCB bT (af (ae 1) al))) (mCB bT (af (ae 0) al))))) (bO (mC (.bl false))) (bC)) (av (bq (oC ue (eU bw (af (mUn eV (mC (.int 1))) al)) (mCB bT (af (ae 0) al))) 2) (av (aJ bw (mUn eV (mC (.int 1))) (ah 3)) (av (ao [1,3,4,5,6] (cq (eM bw (ae 1)) (ah 4) fO)) (av (bq (bV bw al) 7) (av (ao [0,2,7,8] (cq (cY (af (mCB bT (af (ae 0) al)) al)) (ah 8) dM)) (bO (mC (.bl true))))))))
noncomputable def nq:List S->Option S:=mFn 9 2 lN
noncomputable def u7:List Md:=[.pl,.pl,.ow,.pl]
noncomputable def dN:MS:=ao [3] (aJ u7 (mOp bB (mCB bT (af (j6 1 (ae 3)) al)) (mCB oq (af (mOp ly (ae 3) (mC .non)) al))) (gB 2 (ae 3)))
noncomputable def lO:MS:=av (ao [0] (gC m8 (af (ae 0) al) 1)) (av (bq (lA) 2) (av (ao [1,3] (cq (oP 1) (ah 3) dN)) (j7 2)))
noncomputable def nu:List S->Option S:=mFn 4 1 lO
noncomputable def u8:List Md:=[.pl,.pl,.pl,.ow,.pl]
noncomputable def nv:MS:=av (ao [0,1,4] (mAsgTO rK (af (ae 0) (af (ae 1) (af (ae 2) al))) 3 4)) (av (ao [2] (b8 (mB (mOp ly (ae 2) (mC .non))) (ao [2] (cE (bc u8 3 (af (cB u8 (af (mOp ixD (ae 2) (mC (.int 1))) (af (mOp ixD (ae 2) (mC (.int 0))) al))) al)))) (bC))) (jM 3))
noncomputable def oW:List S->Option S:=mFn 5 3 nv
noncomputable def nz:List Md:=[.pl,.pl,.pl,.pl,.pl]
noncomputable def cT:MS:=av (ao [3] (aJ nz (aQ rJ (af (ae 0) (af (aQ oW (af (ae 2) (af (ae 1) (af (ae 3) al)))) al))) (ah 4))) (ao [4] (b8 (mB (mOp ly (ae 4) (mC .non))) (bO (aQ u6 (af (ae 2) (af (ae 1) (af (mOp ixD (ae 4) (mC (.int 0))) (af (mOp ixD (ae 4) (mC (.int 1))) al)))))) (bC)))
noncomputable def nB:MS:=av (aJ nz (mCB bT (af (ae 0) al)) (ah 2)) (av (ao [0,1,2,3,4] (cq (eM nz (mOp bB (cB nz (af (mC .non) al)) (ae 1))) (ah 3) cT)) (bO (mC .non)))
noncomputable def rM:List S->Option S:=mFn 5 2 nB
noncomputable def oX:List Md:=[.pl,.pl,.pl,.pl,.pl]
noncomputable def ja:MS:=av (aJ oX (aQ rM (af (ae 0) (af (ae 1) al))) (ah 3)) (av (aJ oX (aQ nl (af (ae 0) al)) (ah 4)) (av (ao [2] (b8 (mB (mOp isY (ae 3) (mC .non))) (bO (fE (mOp (eqD 4 false) (ae 4) (mC (.int 1))) (jK (ae 2)))) (bC))) (bO (fE (mOp gtD (ae 4) (mC (.int 1))) (fE (mOp (eqD 4 true) (ae 3) (ae 1)) (aQ nq (af (ae 0) (af (ae 3) al))))))))
noncomputable def fP:List S->Option S:=mFn 5 3 ja
noncomputable def aS:List Md:=[.pl,.pl,.ow,.pl,.pl,.pl,.pl,.pl]
noncomputable def dO:MS:=b8 (jr (lh (aQ fP (af (ae 6) (af (ae 3) (af (mOp gtD (ae 4) (mOp eL (mC (.int 2)) (ae 5))) al)))))) (bO (mC (.bl false))) (bC)
noncomputable def cL:MS:=av (ao [1] (bq (eg u3 (af (ae 0) (af (ae 1) al))) 2)) (av (aJ aS (bu aS 2 nh (af (bu aS 2 fL (af (mOp ixD (eU aS (af (mC (.int 4)) (af (mC (.int 7)) (af (mC (.int 21)) al)))) (bu aS 2 fL (af (mC (.int 3)) al))) al)) al)) (ah 3)) (av (aJ aS (ke nu (af (ae 3) al)) (ah 4)) (av (aJ aS (mOp bB (mC (.int 1)) (bu aS 2 fL (af (mOp ixD (eU aS (af (mC (.int 4)) (af (mC (.int 13)) al))) (bu aS 2 fL (af (mC (.int 2)) al))) al))) (ah 5)) (av (b8 (mB (mOp (eqD 4 false) (bu aS 2 fL (af (mC (.int 2)) al)) (mC (.int 0)))) (aJ aS (mCB pR (af (mC (.int 1)) (af (mCB pQ (af (mC (.int 13)) (af (mOp rn (mOp js (ae 4) (mC (.int 1))) (mC (.int 2))) al))) al))) (ah 5)) (bC)) (av (ao [2] (aJ aS (bu aS 2 ni (af (ae 3) (af (ae 5) al))) (ah 6))) (ao [3,4,5,6,7] (cq (cY (af (mC (.int 2)) al)) (ah 7) dO)))))))
noncomputable def lP:MS:=av (ao [0,1,2,3,4,5,6,7] (cq (cY (af (mCB pR (af (mC (.int 3)) (af (mCB pQ (af (mC (.int 5)) (af (jS 0) al))) al))) al)) (ah 1) cL)) (bO (fE (aQ fP (af (mC (.str ("":Str))) (af (cB aS al) (af (mC (.bl false)) al)))) (aQ fP (af (mC (.str ("ab":Str))) (af (cB aS (af (cB aS (af (mC (.int 0)) (af (mC (.int 1)) al))) al)) (af (mC (.bl false)) al))))))
noncomputable def zE:List S->Option S:=mFn 8 1 lP
noncomputable def yf (M:Int->Int->Bool):Nat->Nat->Int->Int
 | 0,_,_=>1
 | _+1,0,_=>1
 | f+1,L+1,a=>yf M f L (a+1)+((List.range L).map fun (t:Nat)=>if M a (a+1+(t:Int))=true then yf M f t (a+1) * yf M f (L - 1 - t) (a+1+t+1) else 0).sum
noncomputable def G (M:Int->Int->Bool) (a b:Int):Int:=yf M (b - a).toNat (b - a).toNat a
noncomputable def PL (M:Int->Int->Bool) (a b:Int):List (Int × Int):=(-1,G M (a+1) b)::((ups (a+1) (b - (a+1)).toNat).filter (M a)).map fun p=>(p,G M (a+1) p * G M (p+1) b)
open PySem L2 Builtin.Str
noncomputable def sgn (c:Nat):Str:=⟨#[c]⟩
noncomputable def txt (cs:List Nat):Str:=⟨cs.toArray⟩
theorem h8 (a:List Nat):(txt a).length=a.length:=by show a.toArray.size=_; simp
theorem sgn_inj {a b:Nat}:sgn a=sgn b ↔ a=b:=by
 constructor
 · intro h; injection h with h; simpa using h
 · rintro rfl; rfl
theorem DT:(Str.ofString "")=txt []:=by decide +kernel
theorem DU {cs:List Nat} (h:cs.length < 1000000):bT [.str (txt cs)]=some (.int cs.length):=by
 rw [<- h8 cs]; exact DB (by rw [h8]; exact h)
theorem DV {cs:List Nat} {i:Int} (h:0<=i/\i < cs.length) (hl:cs.length < 1000000):ixD (.str (txt cs)) (.int i)=some (.str (sgn (cs.getD i.toNat 0))):=by
 show (if _ then _ else _)=_
 rw [if_pos (by rw [h8]; exact Z38 (bM hl))]
 show (atI (txt cs).cps.toList i).map _=_
 rw [show (txt cs).cps.toList=cs by simp [txt],eB h,Z5,Z3 (by omega:i.toNat < cs.length)]
 rfl
local macro_rules | `(tactic| walk_at "dz")=>`(tactic| first | with_reducible assumption | omega | (simp only [List.length_map,List.length_set,List.length_append,List.length_cons,List.length_nil,List.length_replicate,List.length_dropLast,Mir.eC] at *; omega) | decide)
local macro_rules | `(tactic| walk_at "imm")=>`(tactic| first | with_reducible assumption | exact Mir.m5 (fun _=>rfl) _ | rfl)
local macro_rules | `(tactic| walk_at "bt")=>`(tactic| first | with_reducible assumption | with_reducible exact decide_eq_true (by first | assumption | omega) | with_reducible exact Mir.nd_t (by first | assumption | omega) | rfl | decide)
local macro_rules | `(tactic| walk_at "bf")=>`(tactic| first | with_reducible assumption | with_reducible exact decide_eq_false (by first | assumption | omega) | with_reducible exact Mir.EB (by first | assumption | omega) | rfl | decide)
local macro_rules | `(tactic| walk_at "norm")=>`(tactic| focus ((try dsimp only [Mir.kill,List.set_cons_zero,List.set_cons_succ]); (try exact rfl); done))
local macro_rules | `(tactic| walk_at "normI")=>`(tactic| focus ((try simp only [Mir.jv,List.replicate_succ,List.replicate_zero,List.map_cons,List.map_nil,Mir.look,List.cons_append,List.nil_append]); (try exact rfl); done))
local macro_rules | `(tactic| walk_at "normW")=>`(tactic| first | with_reducible exact Mir.BS | focus ((try simp only [Mir.wb0,Mir.wb1,List.idxOf_cons,beq_self_eq_true,cond_true,cond_false,Nat.reduceBEq,Nat.reduceAdd,Nat.zero_add,Nat.add_zero,Mir.look]); (try exact rfl); done))
local macro_rules | `(tactic| walk_at "opl")=>do
   let a <- Mir.als `Mir "Dz DA ltI leI gtI geI x8 BJ x9 Dy eqBB ltLL yb BK EC listT listL ED EE intI isNN isNI isNT notNN notNI notNT isYB notYB"
   let b <- Mir.alz "divmodI DB mulI1 mulI2 Ez divI addS ixT_ints dH"
   `(tactic| first
 | (first $[| $a]*)
 | with_reducible assumption | with_reducible exact Mir.uW (Mir.bm (fun _=>Z14 rfl) _) | with_reducible exact Mir.lE (Mir.bm (fun _=>Z14 rfl) _)
 | (first $[| $b]*))
local macro_rules | `(tactic| walk_at "ev g0")=>Mir.tx ["A Ev.c","A Ev.var","A Ev.op","G Eq (Ev.eZ _ _ _) _; R Ev.oS <bt> ?_","G Eq (Ev.eZ _ _ _) _; R Ev.oT <bf> ?_","A Ev.EO","A Ev.comp","A Ev.callIx","A Ev.dIn","A Ev.callX","A Ev.cb","A Ev.DI","A Ev.callF","A Ev.tup","A Ev.lst","A Ev.append","A Ev.DJ","A Ev.isi","A Ev.un","A Ev.pop","A Ev.reverse","A Ev.extend","A Ev.EG","A Ev.orV","A Ev.EH","A Ev.ifE","A Ev.chain","A Ev.sl","A Ev.join","A Ev.EI","A Ev.ixS","W ev const","W evE"]
local macro_rules | `(tactic| walk_at "ev g1")=>Mir.tx ["A Ev.uY","A Ev.kil","A Ev.asg","A Ev.ifS","A Ev.i6","A Ev.BN","A Ev.next","G Eq (Ev.eZ _ _ _) _; R Ev.oS <bt> ?_","G Eq (Ev.eZ _ _ _) _; R Ev.oT <bf> ?_","A Ev.asgD1","A Ev.retDV","A Ev.asgDc","A Ev.EQ","A Ev.drop","A Ev.ret","A Ev.EL","A Ev.EJ","A Ev.BO","A Ev.EK","A Ev.par","A Ev.aug","A Ev.forL","A Ev.afterB","A Ev.afterC","A Ev.brk","A Ev.ct","A Ev.retNone","G Eq (Mir.bg _ _ _ _) _; S","G Eq (Mir.bg _ _ _ _) _; s","W evS","S"]
local macro_rules | `(tactic| walk_at "ev g2")=>Mir.tx ["G Eq (Mir.res _ _) _; E rfl","G Eq (Mir.sto _ _ _) _; E rfl","G Eq (Mir.stoN _ _ _) _; E Ev.yd rfl rfl <imm>","G Eq (Mir.stoN _ _ _) _; E rfl","G Eq (Mir.cp _) _; E Mir.xW _","G Eq (Mir.cp _) _; E Mir.BH _","G Eq (Mir.cp _) _; E Mir.xX _","G Eq (Mir.cp _) _; E Mir.xY","G Eq (Mir.cp _) _; E Mir.xZ <imm>","W opl","S","q rfl"]
local macro_rules | `(tactic| walk_at "ev g3")=>Mir.tx ["A Ev.nil","A Ev.cons"]
local macro_rules | `(tactic| walk_at "ev g4")=>Mir.tx ["A Ev.DC","A Ev.DE","A Ev.BP","A Ev.DD","A Ev.DF","A Ev.BQ","G Eq (Mir.Bf _) _; E rfl"]
local macro_rules | `(tactic| walk_at "ev g5")=>Mir.tx ["G Eq (List.set _ _ _) _; W norm","G Eq (Mir.kill _ _) _; W norm","G Eq (Mir.jv _ _ _) _; W normI","G Eq (Mir.wb _ _ _ _ _) _; W normW"]
local macro_rules | `(tactic| walk_at "ev g6")=>Mir.tx ["A Ev.dg","A Ev.lZ","A Ev.jy","A Ev.kK","A Ev.DL","A Ev.sw","W evG"]
local macro_rules | `(tactic| walk_at "ev g7")=>Mir.tx ["A Ev.tb","A Ev.tru","A Ev.and","A Ev.or","A Ev.not","A Ev.yes","G Eq (Ev.eZ _ _ _) _; R Ev.oS <bt> ?_","G Eq (Ev.eZ _ _ _) _; R Ev.oT <bf> ?_","A Ev.BM","A Ev.c3r"]
local macro_rules | `(tactic| walk_at "ev g8")=>Mir.tx ["A Ev.EM","A Ev.rng2","A Ev.EN","A Ev.seqV","A Ev.dwn1","A Ev.enu","A Ev.rng3","W evI"]
local macro_rules | `(tactic| walk_at "ev g9")=>Mir.tx ["A Ev.DM","A Ev.EF","A Ev.BL","A Ev.ncomp","A Ev.nstream","A Ev.nop","W evN"]
local macro_rules | `(tactic| walk_at "ev g10")=>Mir.tx ["G Eq (Mir.look _ _) _; E rfl","G Eq (Mir.xg _) _; E rfl","G Eq (Mir.qR _ _ _) _; E Mir.x0 <dz>","G Eq (Mir.ju _) _; E Mir.BI <imm>","q Mir.okIo_pot _","q Mir.okIo2_pot _ _","S","W evC"]
local macro_rules | `(tactic| walk_at "ev g11")=>Mir.tx ["S","A Ev.DN","W evL"]
local macro_rules | `(tactic| walk_at "ev g12")=>Mir.tx ["S","q Mir.DQ _ _","q rfl","E rfl"]
local macro_rules | `(tactic| walk_at "ev g13")=>Mir.tx ["A Ev.xargs","A Ev.xop","A Ev.xdc"]
local macro_rules | `(tactic| walk_at "ev g14")=>Mir.tx ["A Ev.DG","A Ev.DH"]
local macro_rules | `(tactic| walk_at "ev g15")=>Mir.tx ["A Ev.oNo","A Ev.DK"]
local macro_rules | `(tactic| walk_at "ev g16")=>Mir.tx ["W ev msimp","G Eq (Mir.Df _) _; E Mir.draw_pot <dz>","W evM"]
local macro_rules | `(tactic| walk_at "ev g17")=>Mir.tx ["G Eq (Mir.Br _) _; E rfl"]
local macro_rules | `(tactic| walk_at "ev const")=>`(tactic| ((with_reducible show (fun _=>_) _=_); with_reducible exact Ev.const))
local macro_rules | `(tactic| walk_at "ev msimp")=>`(tactic| ((try simp only [List.map_cons,List.map_nil]); with_reducible assumption))
local macro_rules | `(tactic| walk_at "ev1")=>do
   let a <- Mir.tx ["T Option (Prod Mir.Op Mir.En); W ev g0","T Option (Prod Mir.Fl Mir.En); W ev g1","T Option L2.D; W ev g2","T Option (Prod (List Mir.Op) Mir.En); W ev g3","T Option (List L2.D); W ev g4","T Mir.En; W ev g5","T Option Mir.En; W ev g6","T Option (Prod Bool Mir.En); W ev g7","T Option (Prod (List L2.D) Mir.En); W ev g8","T Option (Prod Mir.S Mir.En); W ev g9","T Option Mir.S; W ev g10","T Option (Prod Mir.En (List L2.D)); W ev g11","T Option (List L2.Key); W ev g12","T Option (Prod (List Mir.S) Mir.En); W ev g13","T Option (List Mir.S); W ev g14","T Option (Prod (Option Int) Mir.En); W ev g15","T Option (Prod Mir.S Mir.S); W ev g16","T Option Bool; W ev g17"]
   `(tactic| first | $a:tactic | focus ((with_reducible show (_ : Nat) < _); walk_at "dz") | focus ((with_reducible show (_ : Nat) = _); first | exact rfl | walk_at "dz") | focus ((with_reducible show _ /\ _); walk_at "dz") | with_reducible assumption | with_reducible exact rfl)
local macro_rules | `(tactic| walk_at "ev")=>`(tactic| repeat (walk_at "ev1"))
local macro_rules | `(tactic| walk_at "evE")=>`(tactic| fail)
local macro_rules | `(tactic| walk_at "evS")=>`(tactic| fail)
local macro_rules | `(tactic| walk_at "evI")=>`(tactic| fail)
local macro_rules | `(tactic| walk_at "evN")=>`(tactic| fail)
local macro_rules | `(tactic| walk_at "evC")=>`(tactic| fail)
local macro_rules | `(tactic| walk_at "evM")=>`(tactic| fail)
local macro_rules | `(tactic| walk_at "evL")=>`(tactic| fail)
local macro_rules | `(tactic| walk_at "evG")=>`(tactic| fail)
open PySem PySem.Spec PyProof.Rows L2
noncomputable def LET:Str:="abcdefghijklmnopqrstuvwxyz"
theorem yg:∀ x:Nat,x < 26->oO LET (sgn (97+x))=some x:=by decide +kernel
theorem yh:LET=txt ((List.range 26).map (97+·)):=by decide +kernel
open PySem PySem.Spec PyProof.Rows L2
noncomputable def fl (x:Nat):Nat:=if x % 2=0 then x+1 else x - 1
theorem oY {x:Nat} {i:Int} (hx:x < 26) (hi:i=(x:Int)):ixD (.str ("abcdefghijklmnopqrstuvwxyz":Str)) (.int i)=some (.str (sgn (97+x))):=by
 have e:("abcdefghijklmnopqrstuvwxyz":Str)=txt ((List.range 26).map (97+·)):=yh
 rw [e,hi]
 rw [DV ⟨by omega,by simp; omega⟩ (by simp)]
 simp [Z5,hx]
local macro_rules | `(tactic| walk_at "evE")=>`(tactic| first | with_reducible apply Ev.find | with_reducible apply Ev.index)
theorem fh {x:Nat} (hx:x < 26):lI [.d (.str (sgn (97+x)))]=some (.d (.str (sgn (97+fl x)))):=by
 have hf:lz (.str ("abcdefghijklmnopqrstuvwxyz":Str)) (.str (sgn (97+x)))=some (.int x):=by
   have e:lz (.str LET) (.str (sgn (97+x)))=(oO LET (sgn (97+x))).map fun i=>D.int (i:Int):=rfl
   rw [yg x hx] at e
   exact e
 have h2:=Int.emod_two_eq (x:Int)
 have hm:eL (.int 2) (.int ((x:Int) % 2))=some (.int (2 * ((x:Int) % 2))):=by
   rcases h2 with h2 | h2 <;> rw [h2] <;> rfl
 have hi:ixD (.str ("abcdefghijklmnopqrstuvwxyz":Str)) (.int ((x:Int)+1 - 2 * ((x:Int) % 2)))=some (.str (sgn (97+fl x))):=by
   by_cases hp:(x:Int) % 2=0
   · rw [show fl x=x+1 by unfold fl; rw [if_pos (by omega)]]
     exact oY (by omega) (by omega)
   · rw [show fl x=x - 1 by unfold fl; rw [if_neg (by omega)]]
     exact oY (by omega) (by omega)
 apply Ev.fn (ρ:=[some (.d (.str (sgn (97+x)))),none,none]) rfl
 unfold qc
 walk_at "ev"
open PySem L2
noncomputable abbrev RS:=List Int × List (Int × Int)
noncomputable def yi (a j:Int) (p q:RS):RS:=(j::(p.1++a::q.1),(a,j)::(p.2++q.2))
noncomputable def fpF (M:Int->Int->Bool):Nat->Nat->Int->List RS
 | 0,_,_=>[([],[])]
 | _+1,0,_=>[([],[])]
 | f+1,L+1,a=>(List.range L).flatMap fun (t:Nat)=>if M a (a+1+(t:Int))=true then (fpF M f t (a+1)).flatMap fun p=>(fpF M f (L - 1 - t) (a+1+t+1)).map fun q=>yi a (a+1+t) p q else []
noncomputable def FP (M:Int->Int->Bool) (a b:Int):List RS:=fpF M (b - a).toNat (b - a).toNat a
theorem b6 {α β:Type} {f g:α->List β}:∀ {l:List α},(∀ x ∈ l,f x=g x)->l.flatMap f=l.flatMap g
 | [],_=>rfl
 | a::l,h=>by
   rw [List.flatMap_cons,List.flatMap_cons,h a Z16,b6 fun x hx=>h x (Z8 _ hx)]
theorem nC (M:Int->Int->Bool):∀ (f L:Nat) (a:Int),L<=f->fpF M f L a=fpF M L L a:=by
 suffices H:∀ (n f g L:Nat) (a:Int),L<=n->L<=f->L<=g->fpF M f L a=fpF M g L a from fun f L a h=>H L f L L a (Z10 _) h (Z10 _)
 intro n
 induction n with
 | zero=>
   intro f g L a h _ _
   have:L=0:=by omega
   subst this
   cases f <;> cases g <;> rfl
 | succ n ih=>
   intro f g L a h h1 h2
   cases L with
   | zero=>cases f <;> cases g <;> rfl
   | succ L=>
     obtain ⟨f,rfl⟩:∃ f',f=f'+1:=⟨f - 1,by omega⟩
     obtain ⟨g,rfl⟩:∃ g',g=g'+1:=⟨g - 1,by omega⟩
     simp only [fpF]
     apply b6
     intro t ht
     have ht:=List.mem_range.mp ht
     rw [ih f g t _ (by omega) (by omega) (by omega),ih f g (L - 1 - t) _ (by omega) (by omega) (by omega)]
theorem u9 (M:Int->Int->Bool) {a b:Int} (h:b<=a):FP M a b=[([],[])]:=by
 unfold FP
 rw [show (b - a).toNat=0 by omega]
 rfl
noncomputable def FPj (M:Int->Int->Bool) (a b j:Int):List RS:=if M a j=true then (FP M (a+1) j).flatMap fun p=>(FP M (j+1) b).map fun q=>yi a j p q else []
theorem qe (M:Int->Int->Bool) {a b:Int} (h:a < b):FP M a b=(ups (a+1) (b - (a+1)).toNat).flatMap (FPj M a b):=by
 obtain ⟨L,hL⟩:∃ L,(b - a).toNat=L+1:=⟨(b - a).toNat - 1,by omega⟩
 unfold FP
 rw [hL,show (b - (a+1)).toNat=L by omega]
 simp only [fpF,ups,List.flatMap_map]
 apply b6
 intro t ht
 have ht:=List.mem_range.mp ht
 simp only [FPj,FP]
 rw [nC M L t _ (by omega),nC M L (L - 1 - t) _ (by omega),show (a+1+(t:Int) - (a+1)).toNat=t by omega,show (b - (a+1+(t:Int)+1)).toNat=L - 1 - t by omega]
noncomputable def FN (M:Int->Int->Bool) (a b:Int):Int:=(FP M a b).length
theorem jb (M:Int->Int->Bool) {a b:Int} (h:b<=a):FN M a b=1:=by unfold FN; rw [u9 M h]; rfl
theorem kj {α β γ:Type} (f:α->β->γ) (y:List β):∀ x:List α,(x.flatMap fun p=>y.map (f p)).length=x.length * y.length
 | []=>by simp
 | a::x=>by rw [List.flatMap_cons,Z17,Z2,kj f y x,Z58,Nat.succ_mul,Nat.add_comm]
theorem yj (M:Int->Int->Bool) (a b j:Int):((FPj M a b j).length:Int)=if M a j=true then FN M (a+1) j * FN M (j+1) b else 0:=by
 unfold FPj FN
 split
 · rw [kj]; simp
 · rfl
theorem fQ (M:Int->Int->Bool) {a b:Int} (h:a < b):FN M a b=((ups (a+1) (b - (a+1)).toNat).map fun j=>if M a j=true then FN M (a+1) j * FN M (j+1) b else 0).sum:=by
 unfold FN
 rw [qe M h]
 generalize ups (a+1) (b - (a+1)).toNat=l
 induction l with
 | nil=>rfl
 | cons x l ih=>
   rw [List.flatMap_cons,Z17,Z6,List.sum_cons,<- ih,Int.natCast_add,yj]
   rfl
open PySem L2
theorem ups_in {lo:Int} {n:Nat} {j:Int}:j ∈ ups lo n ↔ lo<=j/\j < lo+n:=by
 unfold ups
 rw [Z18]
 constructor
 · rintro ⟨t,ht,rfl⟩
   have:=List.mem_range.mp ht
   omega
 · rintro ⟨h1,h2⟩
   exact ⟨(j - lo).toNat,List.mem_range.mpr (by omega),by omega⟩
theorem km (M:Int->Int->Bool) (a b:Int):0<=FN M a b:=by unfold FN; omega
theorem qf {f g:Int->Int}:∀ {l:List Int},(∀ x ∈ l,f x<=g x)->(l.map f).sum<=(l.map g).sum
 | [],_=>Z42 _
 | a::l,h=>by
   rw [Z6,Z6,List.sum_cons,List.sum_cons]
   have h1:=h a Z16
   have h2:=qf (l:=l) fun x hx=>h x (Z8 _ hx)
   omega
noncomputable def ctl (n:Nat):Int:=[1,0,1,0,2,0,5,0,14,0,42,0,132,0,429,0,1430,0,4862,0,16796,0,58786,0,208012,0,742900,0,2674440,0,9694845,0,35357670,0,129644790,0,477638700,0,1767263190,0,6564120420].getD n 0
theorem yk:∀ n:Nat,n<=40->1<=n->((List.range (n - 1)).map fun t=>ctl t * ctl (n - 2 - t)).sum<=ctl n:=by decide +kernel
theorem qg:∀ n:Nat,n<=40->0<=ctl n:=by decide +kernel
theorem va:∀ n:Nat,n<=40->ctl n<=6564120420:=by decide +kernel
theorem BU (M:Int->Int->Bool):∀ (n:Nat) {a b:Int},n<=40->b - a=n->FN M a b<=ctl n:=by
 intro n
 induction n using Nat.strongRecOn with
 | ind n ih=>
   intro a b h10 hn
   by_cases h:a < b
   · rw [fQ M h]
     refine Int.le_trans (qf (g:=fun j=>ctl (j - (a+1)).toNat * ctl (b - (j+1)).toNat) fun j hj=>?_) ?_
     · have hj':=ups_in.mp hj
       have p1:=qg (j - (a+1)).toNat (by omega)
       have p2:=qg (b - (j+1)).toNat (by omega)
       split
       · exact Int.mul_le_mul (ih (j - (a+1)).toNat (by omega) (by omega) (by omega)) (ih (b - (j+1)).toNat (by omega) (by omega) (by omega)) (km _ _ _) p1
       · exact Int.mul_nonneg p1 p2
     · refine Int.le_trans (Int.le_of_eq ?_) (yk n h10 (by omega))
       unfold ups
       rw [Z31,show (b - (a+1)).toNat=n - 1 by omega]
       congr 1
       apply List.map_congr_left
       intro t ht
       have:=List.mem_range.mp ht
       simp only [Function.comp]
       rw [show (a+1+(t:Int) - (a+1)).toNat=t by omega,show (b - (a+1+(t:Int)+1)).toNat=n - 2 - t by omega]
   · rw [jb M (by omega),show n=0 by omega]
     decide
theorem nD (M:Int->Int->Bool) {a b:Int} (h:b - a<=40) (h':a<=b):0<=FN M a b/\FN M a b<=6564120420:=
 ⟨km _ _ _,Int.le_trans (BU M (b - a).toNat (by omega) (by omega)) (va _ (by omega))⟩
theorem BV (M:Int->Int->Bool):∀ (n:Nat) {a b:Int},b - a=n->n % 2=1->FN M a b=0:=by
 intro n
 induction n using Nat.strongRecOn with
 | ind n ih=>
   intro a b hn ho
   rw [fQ M (by omega)]
   have key:∀ l:List Int,(∀ j ∈ l,a+1<=j/\j < b)->(l.map fun j=>if M a j=true then FN M (a+1) j * FN M (j+1) b else 0).sum=0:=by
     intro l
     induction l with
     | nil=>intro _; rfl
     | cons j l ihl=>
       intro hl
       have hj:=hl j Z16
       rw [Z6,List.sum_cons,ihl fun x hx=>hl x (Z8 _ hx)]
       have z:(if M a j=true then FN M (a+1) j * FN M (j+1) b else 0)=0:=by
         split
         · by_cases hp:(j - (a+1)).toNat % 2=1
           · rw [ih (j - (a+1)).toNat (by omega) (a:=a+1) (b:=j) (by omega) hp,Int.zero_mul]
           · rw [ih (b - (j+1)).toNat (by omega) (a:=j+1) (b:=b) (by omega) (by omega),Int.mul_zero]
         · rfl
       rw [z]; rfl
   exact key _ fun j hj=>by have:=ups_in.mp hj; omega
open PySem L2
noncomputable def sm (l:List Int) (f:Int->Int):Int:=(l.map f).sum
theorem jc (f:Int->Int):sm [] f=0:=rfl
theorem bd (a:Int) (l:List Int) (f:Int->Int):sm (a::l) f=f a+sm l f:=by unfold sm; rw [Z6,List.sum_cons]
theorem jd (l m:List Int) (f:Int->Int):sm (l++m) f=sm l f+sm m f:=by unfold sm; rw [Z23,List.sum_append]
theorem b7 {l:List Int} {f g:Int->Int} (h:∀ x ∈ l,f x=g x):sm l f=sm l g:=by unfold sm; rw [List.map_congr_left h]
theorem h9 {l:List Int} {f:Int->Int} (h:∀ x ∈ l,f x=0):sm l f=0:=by
 induction l with
 | nil=>rfl
 | cons a l ih=>rw [bd,h a Z16,ih fun x hx=>h x (Z8 _ hx)]; rfl
theorem BW (l:List Int) (f g:Int->Int):sm l (fun x=>f x+g x)=sm l f+sm l g:=by
 induction l with
 | nil=>rfl
 | cons a l ih=>rw [bd,bd,bd,ih]; omega
theorem qh (c:Int) (l:List Int) (f:Int->Int):c * sm l f=sm l fun x=>c * f x:=by
 induction l with
 | nil=>rw [jc,jc,Int.mul_zero]
 | cons a l ih=>rw [bd,bd,Int.mul_add,ih]
theorem vb (c:Int) (l:List Int) (f:Int->Int):sm l f * c=sm l fun x=>f x * c:=by
 rw [Int.mul_comm,qh]; exact b7 fun x _=>Int.mul_comm _ _
theorem ym (l m:List Int) (f:Int->Int->Int):(sm l fun x=>sm m fun y=>f x y)=sm m fun y=>sm l fun x=>f x y:=by
 induction l with
 | nil=>rw [jc]; exact (h9 fun _ _=>rfl).symm
 | cons a l ih=>
   rw [bd,ih,<- BW]
   exact b7 fun y _=>(bd a l fun x=>f x y).symm
theorem eF (lo:Int) (m n:Nat):ups lo (m+n)=ups lo m++ups (lo+m) n:=by
 induction n with
 | zero=>simp [ups]
 | succ n ih=>rw [<- Nat.add_assoc,dG,ih,dG,List.append_assoc,show lo+((m+n:Nat):Int)=lo+m+n by omega]
theorem vc (lo:Int) (n:Nat):ups lo (n+1)=lo::ups (lo+1) n:=by
 rw [Nat.add_comm,eF]
 simp [ups]
theorem vd {lo c:Int} {n:Nat} (h1:lo<=c) (h2:c < lo+n) (g:Int->Int):sm (ups (c+1) (lo+n - (c+1)).toNat) g=sm (ups lo n) fun q=>if c < q then g q else 0:=by
 have e:n=(c+1 - lo).toNat+(lo+n - (c+1)).toNat:=by omega
 conv=>rhs; rw [e,eF,jd,show lo+((c+1 - lo).toNat:Int)=c+1 by omega]
 rw [h9 (l:=ups lo _),Int.zero_add]
 · exact b7 fun q hq=>by rw [if_pos (by have:=ups_in.mp hq; omega)]
 · intro q hq
   rw [if_neg (by have:=ups_in.mp hq; omega)]
theorem ve {lo c:Int} {n:Nat} (h1:lo<=c) (h2:c<=lo+n) (g:Int->Int):sm (ups lo (c - lo).toNat) g=sm (ups lo n) fun q=>if q < c then g q else 0:=by
 have e:n=(c - lo).toNat+(lo+n - c).toNat:=by omega
 conv=>rhs; rw [e,eF,jd,show lo+((c - lo).toNat:Int)=c by omega]
 rw [h9 (l:=ups c _),Int.add_zero]
 · exact b7 fun q hq=>by rw [if_pos (by have:=ups_in.mp hq; omega)]
 · intro q hq
   rw [if_neg (by have:=ups_in.mp hq; omega)]
noncomputable def fmT (M:Int->Int->Bool) (a b j:Int):Int:=if M a j=true then FN M (a+1) j * FN M (j+1) b else 0
noncomputable def flT (M:Int->Int->Bool) (a b q:Int):Int:=if M q (b - 1)=true then FN M a q * FN M (q+1) (b - 1) else 0
theorem nE (M:Int->Int->Bool) {a b:Int} (h:a < b):FN M a b=sm (ups (a+1) (b - (a+1)).toNat) (fmT M a b):=fQ M h
theorem yn (M:Int->Int->Bool):∀ (n:Nat) {a b:Int},b - a=n->a < b->FN M a b=sm (ups a (b - 1 - a).toNat) (flT M a b):=by
 intro n
 induction n using Nat.strongRecOn with
 | ind n ih=>
   intro a b hn h
   rw [nE M h]
   by_cases h2:b=a+1
   · subst h2
     rw [show (a+1 - (a+1)).toNat=0 by omega,show (a+1 - 1 - a).toNat=0 by omega]
     rfl
   · obtain ⟨m,hm⟩:∃ m:Nat,b=a+2+m:=⟨(b - (a+2)).toNat,by omega⟩
     rw [show (b - (a+1)).toNat=m+1 by omega,show (b - 1 - a).toNat=m+1 by omega,dG,vc,jd,bd,bd,jc,Int.add_zero]
     have t0:fmT M a b (a+1+m)=flT M a b a:=by
       unfold fmT flT
       rw [show a+1+(m:Int)=b - 1 by omega,show b - 1+1=b by omega,jb M (Z42 b),jb M (Z42 a),Int.mul_one,Int.one_mul]
     rw [t0,Int.add_comm]
     congr 1
     have e1:sm (ups (a+1) m) (fmT M a b)=sm (ups (a+1) m) fun j=>sm (ups (a+1) m) fun q=>if j < q then (if M a j=true then FN M (a+1) j else 0) * (if M q (b - 1)=true then FN M (j+1) q * FN M (q+1) (b - 1) else 0) else 0:=by
       refine b7 fun j hj=>?_
       have hj:=ups_in.mp hj
       rw [<- vd (c:=j) (by omega) (by omega),<- qh,show (a+1+(m:Int) - (j+1)).toNat=(b - 1 - (j+1)).toNat by omega]
       have:=ih (b - (j+1)).toNat (by omega) (a:=j+1) (b:=b) (by omega) (by omega)
       unfold fmT
       split
       · rw [this]; rfl
       · rw [Int.zero_mul]
     have e2:sm (ups (a+1) m) (flT M a b)=sm (ups (a+1) m) fun q=>sm (ups (a+1) m) fun j=>if j < q then (if M a j=true then FN M (a+1) j else 0) * (if M q (b - 1)=true then FN M (j+1) q * FN M (q+1) (b - 1) else 0) else 0:=by
       refine b7 fun q hq=>?_
       have hq:=ups_in.mp hq
       rw [<- ve (c:=q) (by omega) (by omega)]
       unfold flT
       split
       · rename_i hm
         rw [nE M (show a < q by omega),vb,show (q - (a+1)).toNat=(q - (a+1)).toNat from rfl]
         refine b7 fun j _=>?_
         unfold fmT
         split
         · rw [Int.mul_assoc]
         · rw [Int.zero_mul,Int.zero_mul]
       · symm
         exact h9 fun j _=>Int.mul_zero _
     rw [e1,e2]
     exact ym _ _ _
open PySem L2
theorem vf {x:Int} {n:Nat} (h:x.natAbs < 2 ^ n) (hn:n<=1000000):BitOk x:=by
 unfold BitOk
 by_cases e:x.natAbs=0
 · rw [e]; decide
 · exact Z15 ((Nat.log2_lt e).mpr h) hn
theorem rN {x:Int} (h:-1000000000000000000 < x/\x < 1000000000000000000):BitOk x:=vf (n:=60) (by omega) (by omega)
theorem BX {x:Int} {n:Nat} (h:x.natAbs < 2 ^ n) (hn:n<=9000) (h0:x ≠ 0):x.natAbs.log2 < 9000:=Z15 ((Nat.log2_lt (by omega)).mpr h) hn
theorem vg {i j:Int} (h1:BitOk i) (h2:BitOk j):eL (.int i) (.int j)=some (.int (i * j)):=if_pos ⟨h1,h2⟩
theorem vh {i j:Int} (h1:0 < j) (h2:j.natAbs.log2 < 9000):rn (.int i) (.int j)=some (.int (i / j)):=by
 show (if _ then _ else _)=_
 rw [if_pos ⟨by omega,h2⟩,Int.fdiv_eq_ediv_of_nonneg _ (by omega)]
local macro_rules | `(tactic| walk_at "bits")=>`(tactic| first | assumption | exact rN (by omega))
local macro_rules | `(tactic| walk_at "opl")=>`(tactic| first | with_reducible assumption | with_reducible exact Mir.vg (by walk_at "bits") (by walk_at "bits") | with_reducible exact Mir.max2I _ _ | with_reducible exact Mir.absI' _)
theorem qi (s:Int) {n:Int} (h:0 < n) (hb:n.natAbs.log2 < 9000):fL [.d (.lst [.int s]),.d (.int n)]=some (.d (.int (s % n)),.d (.lst [.int (s / n)])):=by
 have dv:=vh (i:=s) h hb
 have i0:ixD (.lst [.int s]) (.int 0)=some (.int s):=rfl
 apply Ev.fnM (ρ:=[some (.d (.lst [.int s])),some (.d (.int n)),none]) rfl
 unfold qb
 walk_at "ev"
 · rfl
 · rfl
 · rfl
open PySem L2
local macro_rules | `(tactic| walk_at "opl")=>`(tactic| first | with_reducible assumption | with_reducible exact Mir.vg (by walk_at "bits") (by walk_at "bits") | with_reducible exact Mir.absI' _)
theorem yo {k:Nat} (h:k<=9):(2147483629:Int) ^ k<=2147483629 ^ 9:=by
 have:k=0∨k=1∨k=2∨k=3∨k=4∨k=5∨k=6∨k=7∨k=8∨k=9:=by omega
 rcases this with rfl | rfl | rfl | rfl | rfl | rfl | rfl | rfl | rfl | rfl <;> decide +kernel
theorem BY {x B:Int} {n:Nat} (h:-B < x/\x < B) (hB:B.natAbs < 2 ^ n):x.natAbs < 2 ^ n:=Nat.lt_trans (by omega) hB
theorem cy (ns:List Int) (hns:ns.length<=63) {k:Int} (h0:0<=k) (h1:k < 1000):∃ s,u3 [.scr ns,.d (.int k)]=some (.d (.lst [.int s])):=by
 have done:∀ (n:Int),(∃ s ρ',av (b8 (mB (mOp (eqD 4 false) (mOp jt (ae 2) (mC (.int 3))) (mC (.int 0)))) (cf (bV cI (af (mOp rn (ae 2) (mC (.int 3))) al))) (bC)) (av (ao [1,2] (aJ cI (mOp bB (mOp jt (ae 2) (mC (.int 2147483629))) (mOp eL (mC (.int 40014)) (mOp bB (ae 1) (mC (.int 1))))) (ah 3))) (av (aJ cI (mC (.int 0)) (ah 4)) (av (ao [3,5] (cq (cY (af (mC (.int 9)) al)) (ah 5) fK)) (cf (bV cI (af (ae 4) al)))))) [none,some (.d (.int k)),some (.d (.int n)),none,none,none]=some (.ret (.d (.lst [.int s])),ρ')):=by
   intro n
   by_cases w:n % 3=0
   · have dv:=vh (i:=n) (j:=3) (by decide) (by decide)
     refine ⟨n / 3,?_⟩
     apply Exists.intro
     walk_at "ev"
   · have m0:=Int.emod_nonneg n (show (2147483629:Int) ≠ 0 by decide)
     have m1:=Int.emod_lt_of_pos n (show (0:Int) < 2147483629 by decide)
     obtain ⟨⟨mx,fd⟩,⟨a1,a2,a3,a4⟩,loop⟩:=ck (g:=ah 5) (f:=fK) (e:=D.int) (l:=ups 0 (9:Int).toNat) (env:=fun x:Int × Int=>[none,none,none,some (.d (.int x.1)),some (.d (.int x.2)),none])
       (fun pre x=>0<=x.1/\x.1 < 1000000000000/\0<=x.2/\x.2 < 2147483629 ^ pre.length)
       (fun pre a post x hsp hP=>by
         obtain ⟨mx,fd⟩:=x
         obtain ⟨q1,q2,q3,q4⟩:=hP
         obtain ⟨b1,b2,_⟩:=eD hsp
         dsimp only at q1 q2 q3 q4
         have hl:pre.length < 9:=b2
         have e0:=Int.emod_nonneg (mx * mx+69069 * mx+a+1) (show (2147483629:Int) ≠ 0 by decide)
         have e1:=Int.emod_lt_of_pos (mx * mx+69069 * mx+a+1) (show (0:Int) < 2147483629 by decide)
         generalize em:(mx * mx+69069 * mx+a+1) % 2147483629=mm at e0 e1
         have p1:=yo (k:=pre.length) (by omega)
         have bf:BitOk fd:=vf (n:=320) (BY (B:=2147483629 ^ 9) ⟨by omega,by omega⟩ (by decide +kernel)) (by omega)
         refine ⟨(mm,fd * 2147483629+mm),⟨by dsimp only; omega,by dsimp only; omega,?_,?_⟩,?_⟩
         · dsimp only
           have:=Int.mul_nonneg q3 (show (0:Int)<=2147483629 by decide)
           omega
         · dsimp only
           have h2:(fd+1) * 2147483629<=2147483629 ^ pre.length * 2147483629:=Int.mul_le_mul_of_nonneg_right (by omega) (by decide)
           rw [show (pre++[a]).length=pre.length+1 by simp,Int.pow_succ]
           rw [Int.add_mul] at h2
           omega
         · apply Ev.turn
           walk_at "ev"
           unfold fK
           walk_at "ev"
           rw [em]) (n % 2147483629+40014 * (k+1),0) ⟨by dsimp only; omega,by dsimp only; omega,by dsimp only; omega,by simp⟩
     refine ⟨fd,?_⟩
     apply Exists.intro
     walk_at "ev"
 by_cases w:k < (ns.length:Int)
 · obtain ⟨s,ρ',hd⟩:=done (ns.getD k.toNat 0)
   have ix:atI ns k=some (ns.getD k.toNat 0):=by
     rw [eB ⟨h0,w⟩,Z5,Z3 (by omega)]
     rfl
   refine ⟨s,?_⟩
   apply Ev.fn (ρ:=[some (.scr ns),some (.d (.int k)),none,none,none,none]) rfl
   · unfold m7
     apply Ev.uY
     · walk_at "ev"
     apply Ev.i6
     apply Ev.uY
     · walk_at "ev"
     apply Ev.i6
     exact hd
   · rfl
 · obtain ⟨s,ρ',hd⟩:=done (7 * k+5)
   refine ⟨s,?_⟩
   apply Ev.fn (ρ:=[some (.scr ns),some (.d (.int k)),none,none,none,none]) rfl
   · unfold m7
     apply Ev.uY
     · walk_at "ev"
     apply Ev.i6
     apply Ev.uY
     · walk_at "ev"
     apply Ev.i6
     exact hd
   · rfl
open PySem L2
theorem ko {β:Type} {fc:MT} {fb:MS} {env:β->En} (P Q:β->Prop) (m:β->Nat)
   (hs:∀ b,P b->(Q b/\fc (env b)=some (false,env b))∨∃ b',fc (env b)=some (true,env b)/\fb (env b)=some (.nx,env b')/\P b'/\m b' < m b) :
   ∀ (n:Nat) (b:β),P b->m b < n->∃ b',P b'/\Q b'/\whM fc fb n (env b)=some (.nx,env b'):=by
 intro n
 induction n with
 | zero=>intro b _ h; omega
 | succ n ih=>
   intro b hb hm
   rcases hs b hb with ⟨q,h⟩ | ⟨b',h1,h2,h3,h4⟩
   · refine ⟨b,hb,q,?_⟩
     unfold whM
     simp only [h,Z1]
     simp
   · obtain ⟨c,c1,c2,c3⟩:=ih b' h3 (by omega)
     refine ⟨c,c1,c2,?_⟩
     unfold whM
     simp only [h1,Z1,h2]
     simpa using c3
noncomputable def bP (r:List Int) (p:Int × Int):List Int:=(r.set p.1.toNat p.2).set p.2.toNat p.1
noncomputable def In2 (n:Int) (sh:List (Int × Int)):Prop:=∀ p ∈ sh,0<=p.1/\p.1 < n/\0<=p.2/\p.2 < n
theorem vi (n:Nat) (d:D):(List.replicate n [d]).flatten=List.replicate n d:=by
 induction n with
 | zero=>rfl
 | succ n ih=>rw [Z22,Z39,ih,Z22]; rfl
theorem oZ {n:Int} {d:D} (h:0<=n/\n < 1000000):ue (.lst [d]) (.int n)=some (.lst (List.replicate n.toNat d)):=by
 have hs:n.toNat < sizeLine:=bM (by omega)
 have:-(2 ^ 63)<=n/\n < 2 ^ 63/\[d].length * n.toNat<=sizeLine:=⟨by omega,by omega,by simp; omega⟩
 show (if _ then _ else _)=_
 rw [if_pos this,vi]
noncomputable def cU (n:Int) (sh:List (Int × Int)):List Int:=sh.foldl bP (List.replicate n.toNat (-1))
theorem o5 {n:Int} {sh:List (Int × Int)} (h0:0<=n) (h1:n<=100) (hb:In2 n sh):oU [.d (.int n),.d (.tup (sh.map ac))]=some (.d (.lst ((cU n sh).map D.int))):=by
 obtain ⟨_,loop⟩:=uX (g:=bJ 2 (aD (ah 3) (aD (ah 4) bU))) (f:=hX) (e:=ac) (l:=sh) (env:=fun r:List Int=>[none,some (.d (.tup (sh.map ac))),some (.d (.lst (r.map D.int))),none,none]) (step:=bP) (P:=fun r=>r.length=n.toNat)
   (fun r p hp hr=>by
     have hp:=hb p hp
     refine ⟨by simp [bP,hr],?_⟩
     apply Ev.turn
     walk_at "ev"
     unfold hX
     walk_at "ev"
     simp only [bP,List.map_set]) (List.replicate n.toNat (-1)) (by simp)
 rw [List.map_replicate] at loop
 have hr:=oZ (n:=n) (d:=.int (-1)) (by omega)
 apply Ev.fn (ρ:=[some (.d (.int n)),some (.d (.tup (sh.map ac))),none,none,none]) rfl
 unfold p8
 walk_at "ev"
 rfl
noncomputable def Sh (n:Int) (sh:List (Int × Int)):Prop:=(∀ p ∈ sh,0<=p.1/\p.1 < p.2/\p.2 < n)/\sh.Pairwise fun a b=>a.1 < b.1/\(a.2 < b.1∨b.2 < a.2)
theorem Sh.two {n:Int} {sh:List (Int × Int)} (h:Sh n sh) {p q:Int × Int} (hp:p ∈ sh) (hq:q ∈ sh) (hl:p.1 < q.1):p.2 < q.1∨q.2 < p.2:=by
 have h2:=h.2
 clear h
 induction sh with
 | nil=>cases hp
 | cons a sh ih=>
   rw [List.pairwise_cons] at h2
   rcases Z19.mp hp with rfl | hp'
   · rcases Z19.mp hq with rfl | hq'
     · omega
     · exact (h2.1 q hq').2
   · rcases Z19.mp hq with rfl | hq'
     · have:=(h2.1 p hp').1; omega
     · exact ih hp' hq' h2.2
theorem Sh.one {n:Int} {sh:List (Int × Int)} (h:Sh n sh) {p q:Int × Int} (hp:p ∈ sh) (hq:q ∈ sh) (hl:p.1=q.1):p=q:=by
 have h2:=h.2
 clear h
 induction sh with
 | nil=>cases hp
 | cons a sh ih=>
   rw [List.pairwise_cons] at h2
   rcases Z19.mp hp with rfl | hp'
   · rcases Z19.mp hq with rfl | hq'
     · rfl
     · have:=(h2.1 q hq').1; omega
   · rcases Z19.mp hq with rfl | hq'
     · have:=(h2.1 p hp').1; omega
     · exact ih hp' hq' h2.2
noncomputable def kr (k:Int) (q:Int) (p:Int × Int):Int:=if p.2=k then p.1 else if p.1=k then p.2 else q
theorem cM {α:Type} (r:List α) (i k:Nat) (x d:α) (h:i < r.length):(r.set i x).getD k d=if i=k then x else r.getD k d:=by
 rw [Z5,Z5,List.getElem?_set]
 by_cases e:i=k
 · subst e; simp [h]
 · simp [e]
theorem ic {n:Int} (k:Nat):∀ (sh:List (Int × Int)) (r:List Int),In2 n sh->r.length=n.toNat->(sh.foldl bP r).getD k 0=sh.foldl (kr k) (r.getD k 0)
 | [],r,_,_=>rfl
 | p::sh,r,hb,hr=>by
   have hp:=hb p (by simp)
   rw [Z40,Z40,ic k sh _ (fun q hq=>hb q (by simp [hq])) (by simp [bP,hr])]
   congr 1
   unfold bP kr
   rw [cM _ _ _ _ _ (by rw [Z32]; omega),cM _ _ _ _ _ (by omega)]
   have e2:(p.2.toNat=k)=(p.2=(k:Int)):=propext (by omega)
   have e1:(p.1.toNat=k)=(p.1=(k:Int)):=propext (by omega)
   simp only [e1,e2]
theorem ie {k:Int}:∀ {sh:List (Int × Int)} {q:Int},(∀ p ∈ sh,p.1 ≠ k/\p.2 ≠ k)->sh.foldl (kr k) q=q
 | [],_,_=>rfl
 | p::sh,q,h=>by
   have hp:=h p (by simp)
   rw [Z40,ie fun p hp=>h p (by simp [hp])]
   unfold kr
   rw [if_neg hp.2,if_neg hp.1]
theorem Sh.in2 {n:Int} {sh:List (Int × Int)} (h:Sh n sh):In2 n sh:=fun p hp=>by have:=h.1 p hp; omega
theorem vj {n:Int} {sh:List (Int × Int)} (h:Sh n sh) {k:Int} (h0:0<=k) (h1:k < n) (hf:∀ p ∈ sh,p.1 ≠ k/\p.2 ≠ k):(cU n sh).getD k.toNat 0=-1:=by
 unfold cU
 rw [ic k.toNat sh _ h.in2 (by simp),show ((k.toNat:Nat):Int)=k by omega,ie hf]
 rw [Z5,List.getElem?_replicate,if_pos (by omega)]; rfl
theorem gE {n:Int} {sh:List (Int × Int)} (h:Sh n sh) {p:Int × Int} (hp:p ∈ sh):(cU n sh).getD p.1.toNat 0=p.2:=by
 have hb:=h.1 p hp
 unfold cU
 rw [ic p.1.toNat sh _ h.in2 (by simp),show ((p.1.toNat:Nat):Int)=p.1 by omega]
 obtain ⟨l1,l2,rfl⟩:=List.append_of_mem hp
 rw [List.foldl_append,Z40,ie]
 · unfold kr
   rw [if_neg (by omega),if_pos rfl]
 · intro q hq
   have h2:=h.2
   rw [Z48] at h2
   have h3:=List.pairwise_cons.mp h2.2.1
   have:=(h3.1 q hq).1
   have hq':=h.1 q (by simp [hq])
   constructor <;> omega
theorem lQ {n:Int} {sh:List (Int × Int)}:(cU n sh).length=n.toNat:=by
 unfold cU
 have:∀ (sh:List (Int × Int)) (r:List Int),(sh.foldl bP r).length=r.length:=by
   intro sh
   induction sh with
   | nil=>intro r; rfl
   | cons p sh ih=>intro r; rw [Z40,ih]; simp [bP]
 rw [this]; simp
noncomputable def aG (sh:List (Int × Int)) (a b:Int):List (Int × Int):=sh.filter fun p=>decide (a < p.1) && decide (p.2 < b)
noncomputable def bx (ws:List (Int × Int)) (p:Int × Int):List (Int × Int):=ws.filter fun q=>decide (q.1 < p.1) && decide (p.2 < q.2)
noncomputable def inner (sh:List (Int × Int)) (a b:Int):List (Int × Int):=(aG sh a b).filter fun p=>(bx (aG sh a b) p).isEmpty
noncomputable def dP (l:List (Int × Int)):Int:=(l.map fun p=>p.2 - p.1+1).sum
theorem within_mem {sh:List (Int × Int)} {a b:Int} {p:Int × Int}:p ∈ aG sh a b ↔ p ∈ sh/\a < p.1/\p.2 < b:=by simp [aG]
theorem inner_mem {sh:List (Int × Int)} {a b:Int} {p:Int × Int}:p ∈ inner sh a b ↔ p ∈ aG sh a b/\∀ q ∈ aG sh a b,q.1 < p.1->¬ p.2 < q.2:=by
 unfold inner
 rw [List.mem_filter,List.isEmpty_iff]
 constructor
 · rintro ⟨h1,h2⟩
   refine ⟨h1,fun q hq h3 h4=>?_⟩
   have:q ∈ bx (aG sh a b) p:=by simp [bx,hq,h3,h4]
   rw [h2] at this; cases this
 · rintro ⟨h1,h2⟩
   refine ⟨h1,List.eq_nil_iff_forall_not_mem.mpr fun q hq=>?_⟩
   simp [bx] at hq
   exact h2 q hq.1 hq.2.1 hq.2.2
theorem cV {n:Int} {sh:List (Int × Int)} (h:Sh n sh) (a b:Int):(inner sh a b).Pairwise fun a b=>a.1 < b.1:=by
 unfold inner aG
 exact ((h.2.imp fun h=>h.1).filter _).filter _
theorem yp {l:List (Int × Int)} (hs:l.Pairwise fun a b=>a.1 < b.1) {p:Int × Int} (hp:p ∈ l) {t:Int} (ht:p.1<=t) (hn:∀ q ∈ l,q.1<=t->q.1<=p.1):(l.filter fun q=>decide (q.1 < t+1))=(l.filter fun q=>decide (q.1 < p.1))++[p]:=by
 induction l with
 | nil=>cases hp
 | cons a l ih=>
   rw [List.pairwise_cons] at hs
   rcases Z19.mp hp with rfl | hp'
   · rw [List.filter_cons_of_pos (by simp; omega),List.filter_cons_of_neg (by simp)]
     have e1:(l.filter fun q=>decide (q.1 < t+1))=[]:=List.filter_eq_nil_iff.mpr fun q hq=>by
       have:=hs.1 q hq
       intro h
       have h:=of_decide_eq_true h
       have:=hn q (by simp [hq]) (by omega)
       omega
     have e2:(l.filter fun q=>decide (q.1 < p.1))=[]:=List.filter_eq_nil_iff.mpr fun q hq=>by
       have:=hs.1 q hq
       intro h
       have h:=of_decide_eq_true h
       omega
     rw [e1,e2]; rfl
   · have:=hs.1 p hp'
     rw [List.filter_cons_of_pos (by simp; omega),List.filter_cons_of_pos (by simpa using this),ih hs.2 hp' fun q hq h=>hn q (by simp [hq]) h]
     rfl
local macro_rules | `(tactic| walk_at "evS")=>`(tactic| focus ((with_reducible show Mir.bW _ _ _ _=_); with_reducible assumption))
open PySem L2
theorem ix0 {a:D} {l:List D}:ixD (.tup (a::l)) (.int 0)=some a:=by
 show atI (a::l) 0=some a
 rw [eB (by simp)]; rfl
theorem ix1 {a b:D} {l:List D}:ixD (.tup (a::b::l)) (.int 1)=some b:=by
 show atI (a::b::l) 1=some b
 rw [eB (by simp; omega)]; rfl
local macro_rules | `(tactic| walk_at "opl")=>`(tactic| first | with_reducible exact Mir.ix0 | with_reducible exact Mir.ix1)
theorem nY1 (o:Int × Int):ly (ac o) .non=some (.bl true):=rfl
theorem nY0:ly .non .non=some (.bl false):=rfl
local macro_rules | `(tactic| walk_at "opl")=>`(tactic| first | with_reducible exact Mir.ix0 | with_reducible exact Mir.ix1 | with_reducible exact Mir.nY1 _ | with_reducible exact Mir.nY0)
noncomputable def vk (sh:List (Int × Int)) (a b:Int):Prop:=∀ p ∈ sh,(a < p.1->p.1 < b->p.2 < b)/\(a < p.2->p.2 < b->a < p.1)
theorem je {n:Int} {sh:List (Int × Int)} (h:Sh n sh):vk sh (-1) n:=fun p hp=>by have:=h.1 p hp; constructor <;> intros <;> omega
theorem gF {n:Int} {sh:List (Int × Int)} (h:Sh n sh) {o:Int × Int} (ho:o ∈ sh):vk sh o.1 o.2:=fun p hp=>by
 have hb:=h.1 p hp
 constructor
 · intro h1 h2
   have:=h.two ho hp h1
   omega
 · intro h1 h2
   rcases Int.lt_trichotomy p.1 o.1 with h3 | h3 | h3
   · have:=h.two hp ho h3; omega
   · have:=h.one hp ho h3; subst this; omega
   · exact h3
theorem rO (l m:List (Int × Int)):dP (l++m)=dP l+dP m:=by simp [dP]
theorem ku {n:Int} {sh:List (Int × Int)} (hn:0<=n/\n<=100) (h:Sh n sh) {a b:Int} (ha:-1<=a) (hab:a < b) (hb:b<=n) (pt:vk sh a b) :
   ∃ free:List Int,(free.length:Int)+dP (inner sh a b)=b - a - 1/\bW 100000 (mB (mOp ltD (ae 4) (ae 5))) cR [none,none,none,some (.d (.lst ((cU n sh).map D.int))),some (.d (.int (a+1))),some (.d (.int b)),some (.d (.lst [])),some (.d (.lst []))] =
     some (.nx,[none,none,none,some (.d (.lst ((cU n sh).map D.int))),some (.d (.int b)),some (.d (.int b)),some (.d (.lst ((inner sh a b).map ac))),some (.d (.lst (free.map D.int)))]):=by
 have hlen:=lQ (n:=n) (sh:=sh)
 obtain ⟨⟨s,hs,fr⟩,⟨c1,c2,c3,c4,c5,c6,c7⟩,q,loop⟩:=ko (fc:=mB (mOp ltD (ae 4) (ae 5))) (fb:=cR) (env:=fun x:Int × List (Int × Int) × List Int=>[none,none,none,some (.d (.lst ((cU n sh).map D.int))),some (.d (.int x.1)),some (.d (.int b)),some (.d (.lst (x.2.1.map ac))),some (.d (.lst (x.2.2.map D.int)))])
   (fun x=>a < x.1/\x.1<=b/\(∀ p ∈ aG sh a b,p.1 < x.1->p.2 < x.1)/\x.2.1=(inner sh a b).filter (fun p=>decide (p.1 < x.1))/\(x.2.2.length:Int)+dP x.2.1=x.1 - a - 1/\(x.2.1.length:Int)<=x.1 - a - 1/\(x.2.2.length:Int)<=x.1 - a - 1)
   (fun x=>x.1=b) (fun x=>(b - x.1).toNat)
   (fun x hx=>by
     obtain ⟨s,hs,fr⟩:=x
     obtain ⟨c1,c2,c3,c4,c5,c6,c7⟩:=hx
     dsimp only at c1 c2 c3 c4 c5 c6 c7
     by_cases hsb:s < b
     · right
       by_cases hf:∃ p ∈ sh,p.1=s
       · obtain ⟨p,hp,rfl⟩:=hf
         have hpb:=h.1 p hp
         have hin:=(pt p hp).1 c1 hsb
         have hw:p ∈ aG sh a b:=within_mem.mpr ⟨hp,c1,hin⟩
         have hi:p ∈ inner sh a b:=inner_mem.mpr ⟨hw,fun q hq h1 h2=>by have:=c3 q hq h1; omega⟩
         have e1:=gE h hp
         have e2:¬ (cU n sh).getD p.1.toNat 0=-1:=by rw [e1]; omega
         refine ⟨(p.2+1,hs++[p],fr),?_,?_,⟨by dsimp only; omega,by dsimp only; omega,?_,?_,?_,?_,?_⟩,?_⟩
         · rw [<- decide_eq_true hsb]
           walk_at "ev"
         · apply Ev.top
           unfold cR
           walk_at "ev"
           simp only [e1,Z23,Z6,List.map_nil]
         · intro q hq h1
           dsimp only at h1 ⊢
           have hq':=within_mem.mp hq
           rcases Int.lt_trichotomy q.1 p.1 with h3 | h3 | h3
           · have:=c3 q hq h3; omega
           · have:=h.one hq'.1 hp h3; subst this; omega
           · have:=h.two hp hq'.1 h3; omega
         · dsimp only
           rw [c4,yp (cV h a b) hi (t:=p.2) (by omega)]
           intro q hq h1
           have hq':=inner_mem.mp hq
           have hq2:=within_mem.mp hq'.1
           by_cases h3:p.1 < q.1
           · have:=h.two hp hq2.1 h3
             have:=hq'.2 p hw h3
             omega
           · omega
         · dsimp only
           rw [rO]
           simp only [dP,Z6,List.map_nil,List.sum_cons,List.sum_nil]
           simp only [dP] at c5
           omega
         · dsimp only; simp; omega
         · dsimp only; omega
         · dsimp only; omega
       · have hf':∀ p ∈ sh,p.1 ≠ s:=fun p hp e=>hf ⟨p,hp,e⟩
         have hf2:∀ p ∈ sh,p.1 ≠ s/\p.2 ≠ s:=fun p hp=>⟨hf' p hp,fun e=>by
           have hpb:=h.1 p hp
           have h1:=(pt p hp).2 (by omega) (by omega)
           have:=c3 p (within_mem.mpr ⟨hp,h1,by omega⟩) (by omega)
           omega⟩
         have e1:=vj h (k:=s) (by omega) (by omega) hf2
         refine ⟨(s+1,hs,fr++[s]),?_,?_,⟨by dsimp only; omega,by dsimp only; omega,?_,?_,?_,?_,?_⟩,?_⟩
         · rw [<- decide_eq_true hsb]
           walk_at "ev"
         · apply Ev.top
           unfold cR
           walk_at "ev"
           simp only [Z23,Z6,List.map_nil]
         · intro q hq h1
           dsimp only at h1 ⊢
           have:=hf' q (within_mem.mp hq).1
           have:=c3 q hq (by omega)
           omega
         · dsimp only
           rw [c4]
           apply List.filter_congr
           intro q hq
           have:=hf' q (within_mem.mp (inner_mem.mp hq).1).1
           exact decide_eq_decide.mpr (by omega)
         · dsimp only; simp; omega
         · dsimp only; omega
         · dsimp only; simp; omega
         · dsimp only; omega
     · left
       refine ⟨by dsimp only; omega,?_⟩
       rw [<- decide_eq_false hsb]
       walk_at "ev") 100000 (a+1,[],[]) ⟨by dsimp only; omega,by dsimp only; omega,fun p hp h1=>by
         have:=within_mem.mp hp
         dsimp only at h1; omega,by
         dsimp only
         refine (List.filter_eq_nil_iff.mpr fun q hq=>?_).symm
         have:=(within_mem.mp (inner_mem.mp hq).1).2.1
         simp; omega,by simp [dP]; omega,by simp; omega,by simp; omega⟩ (by dsimp only; omega)
 dsimp only at c1 c2 c3 c4 c5 c6 c7 q loop
 subst q
 have e:hs=inner sh a s:=by
   rw [c4]
   apply List.filter_eq_self.mpr
   intro p hp
   have h1:=within_mem.mp (inner_mem.mp hp).1
   have:=h.1 p h1.1
   exact decide_eq_true (by omega)
 subst e
 exact ⟨fr,c5,loop⟩
theorem yq {n:Int} {sh:List (Int × Int)} (hn:0<=n/\n<=100) (h:Sh n sh) {o:Int × Int} (ho:o ∈ sh) :
   ∃ free:List Int,(free.length:Int)+dP (inner sh o.1 o.2)=o.2 - o.1 - 1/\rK [.d (.int n),.d (.tup (sh.map ac)),.d (ac o)]=some (.d (.tup [.lst ((inner sh o.1 o.2).map ac),.lst (free.map D.int)])):=by
 have hb:=h.1 o ho
 obtain ⟨free,f1,loop⟩:=ku hn h (a:=o.1) (b:=o.2) (by omega) (by omega) (by omega) (gF h ho)
 have hr:=o5 hn.1 hn.2 h.in2
 refine ⟨free,f1,?_⟩
 apply Ev.fn (ρ:=[some (.d (.int n)),some (.d (.tup (sh.map ac))),some (.d (ac o)),none,none,none,none,none]) rfl
 unfold m9
 walk_at "ev"
theorem rP {n:Int} {sh:List (Int × Int)} (hn:0<=n/\n<=100) (h:Sh n sh) :
   ∃ free:List Int,(free.length:Int)+dP (inner sh (-1) n)=n/\rK [.d (.int n),.d (.tup (sh.map ac)),.d .non]=some (.d (.tup [.lst ((inner sh (-1) n).map ac),.lst (free.map D.int)])):=by
 obtain ⟨free,f1,loop⟩:=ku hn h (a:=-1) (b:=n) (by omega) (by omega) (by omega) (je h)
 have hr:=o5 hn.1 hn.2 h.in2
 refine ⟨free,by omega,?_⟩
 replace loop:bW 100000 (mB (mOp ltD (ae 4) (ae 5))) cR [none,none,none,some (.d (.lst ((cU n sh).map D.int))),some (.d (.int 0)),some (.d (.int n)),some (.d (.lst [])),some (.d (.lst []))]=_:=loop
 apply Ev.fn (ρ:=[some (.d (.int n)),some (.d (.tup (sh.map ac))),some (.d .non),none,none,none,none,none]) rfl
 unfold m9
 walk_at "ev"
open PySem L2
noncomputable def tx9 (ls:List Nat):Str:=txt (ls.map (97+·))
noncomputable def lt9 (ls:List Nat) (i:Int):Nat:=ls.getD i.toNat 0
noncomputable def fe (ls:List Nat) (a j:Int):Bool:=decide (lt9 ls j=fl (lt9 ls a))
noncomputable def Ls (ls:List Nat):Prop:=∀ x ∈ ls,x < 26
theorem lR {ls:List Nat} (h:Ls ls) {i:Int} (hi:0<=i/\i < ls.length):lt9 ls i < 26:=by
 unfold lt9
 rw [Z5,Z3 (by omega)]
 exact h _ (List.getElem_mem _)
theorem ix9 {ls:List Nat} (hl:ls.length < 1000000) {i:Int} (hi:0<=i/\i < ls.length):ixD (.str (tx9 ls)) (.int i)=some (.str (sgn (97+lt9 ls i))):=by
 unfold tx9
 rw [DV (by simpa using hi) (by simpa using hl)]
 unfold lt9
 rw [Z5,Z21,Z5,Z3 (by omega)]
 rfl
theorem BZ {ls:List Nat} (hl:ls.length < 1000000):bT [.str (tx9 ls)]=some (.int ls.length):=by
 unfold tx9
 rw [DU (by simpa using hl)]
 simp
noncomputable def lT (kvs:List (List Key × D)):Prop:=∀ kv ∈ kvs,D.imm kv.2=true
open PySem L2
theorem zF {x:Nat} (h:x < 26):fl (fl x)=x:=by unfold fl; split <;> split <;> omega
theorem B0 {ls:List Nat} (hls:Ls ls) {q e:Int} (hq:0<=q/\q < ls.length) (he:0<=e/\e < ls.length):fe ls q e=decide (lt9 ls q=fl (lt9 ls e)):=by
 unfold fe
 have h1:=zF (lR hls hq)
 have h2:=zF (lR hls he)
 by_cases c:lt9 ls e=fl (lt9 ls q)
 · rw [decide_eq_true c,decide_eq_true (by rw [c,h1])]
 · rw [decide_eq_false c,decide_eq_false (fun z=>c (by rw [z,h2]))]
theorem B1 (f:Int->Int):∀ (n m:Nat) (lo:Int),m<=n->(∀ x,lo<=x->x < lo+m->(lo+m - x) % 2=0->f x=0)->sm (ups lo m) f=((List.range ((m+1) / 2)).map fun (k:Nat)=>f (lo+m - 1+(k:Int) * -2)).sum:=by
 intro n
 induction n with
 | zero=>
   intro m lo hm _
   obtain rfl:m=0:=by omega
   rfl
 | succ n ih=>
   intro m lo hm hz
   match m,hm,hz with
   | 0,_,_=>rfl
   | 1,_,_=>simp [sm,ups]
   | m+2,hm,hz=>
     rw [dG,dG,jd,jd,bd,bd,jc,ih m lo (by omega) fun x h1 h2 h3=>hz x h1 (by omega) (by omega),hz (lo+m) (by omega) (by omega) (by omega)]
     rw [show (m+2+1) / 2=(m+1) / 2+1 by omega,List.range_succ_eq_map,Z6,List.sum_cons,Z31]
     have e:((List.range ((m+1) / 2)).map fun (k:Nat)=>f (lo+m - 1+(k:Int) * -2))=(List.range ((m+1) / 2)).map ((fun (k:Nat)=>f (lo+((m+2:Nat):Int) - 1+(k:Int) * -2)) ∘ Nat.succ):=by
       apply List.map_congr_left
       intro k _
       simp only [Function.comp]
       congr 1
       omega
     rw [e,show lo+((m+1:Nat):Int)=lo+((m+2:Nat):Int) - 1+((0:Nat):Int) * -2 by omega]
     omega
theorem DW (M:Int->Int->Bool) {a:Int} {z:Nat} (hz:1<=z):FN M a (a+z)=((List.range (z / 2)).map fun (k:Nat)=>flT M a (a+z) (a+z - 2+(k:Int) * -2)).sum:=by
 rw [yn M z (by omega) (by omega),show (a+(z:Int) - 1 - a).toNat=z - 1 by omega,B1 _ (z - 1) (z - 1) a (Z10 _) ?_]
 · rw [show (z - 1+1) / 2=z / 2 by omega]
   congr 1
   apply List.map_congr_left
   intro k _
   rw [show a+((z - 1:Nat):Int) - 1=a+z - 2 by omega]
 · intro x h1 h2 h3
   unfold flT
   split
   · rw [BV M (a+z - 1 - (x+1)).toNat (a:=x+1) (b:=a+z - 1) (by omega) (by omega),Int.mul_zero]
   · rfl
theorem B2 {i z:Int} (hz:0<=z):gP (i+z - 2) (i - 1) (-2)=(z / 2).toNat:=by
 unfold gP
 rw [show -(-2:Int)=2 by decide]
 split <;> omega
local macro_rules | `(tactic| walk_at "opl")=>`(tactic| first | with_reducible assumption | with_reducible exact Mir.ix0 | with_reducible exact Mir.ix1 | with_reducible exact Mir.vg (by walk_at "bits") (by walk_at "bits"))
local macro_rules | `(tactic| walk_at "evI")=>`(tactic| with_reducible apply Ev.zD)
noncomputable def kw (ls:List Nat) (kvs:List (List Key × D)) (x y:Int):Prop:=aM kvs [.inl x,.inl y]=some (.int (FN (fe ls) x y))
theorem DX {ls:List Nat} (hls:Ls ls) (hl:ls.length<=40) {kvs:List (List Key × D)} {i z:Int} (hi:0<=i) (hz:0<=z) (hs:i+z<=ls.length) (hg:∀ x y:Int,0<=x->x<=y->y<=ls.length->y - x < z->kw ls kvs x y) {n:Int} (v0:Int) (hv:v0=if z=0 then 1 else 0) :
   bg (ah 6) cK (gQ (i+z - 2) (-2) (gP (i+z - 2) (i - 1) (-2))) [some (.d (.str (tx9 ls))),some (.d (.int n)),some (.dc kvs),some (.d (.int z)),some (.d (.int i)),some (.d (.int v0)),none] =
     some (.nx,[some (.d (.str (tx9 ls))),some (.d (.int n)),some (.dc kvs),some (.d (.int z)),some (.d (.int i)),some (.d (.int (FN (fe ls) i (i+z)))),none]):=by
 obtain ⟨zn,rfl⟩:=Int.eq_ofNat_of_zero_le hz
 rw [B2 hz]
 have hn2:((zn:Int) / 2).toNat=zn / 2:=by omega
 rw [hn2]
 obtain ⟨v,c1,loop⟩:=ck (α:=Nat) (g:=ah 6) (f:=cK) (e:=fun k=>D.int (i+zn - 2+(k:Nat) * (-2))) (l:=List.range (zn / 2)) (env:=fun (v:Int)=>[some (.d (.str (tx9 ls))),some (.d (.int n)),some (.dc kvs),some (.d (.int zn)),some (.d (.int i)),some (.d (.int v)),none])
   (fun pre v=>v=v0+(pre.map fun (k:Nat)=>flT (fe ls) i (i+zn) (i+zn - 2+(k:Int) * -2)).sum)
   (fun pre k post v hsp hp=>by
     have hk:k < zn / 2:=List.mem_range.mp (by rw [hsp]; simp)
     obtain ⟨j,hj⟩:∃ j:Int,j=i+zn - 2+(k:Int) * -2:=⟨_,rfl⟩
     have hj1:i<=j/\j<=i+zn - 2:=by omega
     have ij:=ix9 (ls:=ls) (by omega) (i:=j) (by omega)
     have il:=ix9 (ls:=ls) (by omega) (i:=i+zn - 1) (by omega)
     have fa:=fh (lR hls (i:=i+zn - 1) (by omega))
     have g1:aM kvs [.inl i,.inl j]=some (.int (FN (fe ls) i j)):=hg i j hi (by omega) (by omega) (by omega)
     have g2:aM kvs [.inl (j+1),.inl (i+zn - 1)]=some (.int (FN (fe ls) (j+1) (i+zn - 1))):=hg (j+1) (i+zn - 1) (by omega) (by omega) (by omega) (by omega)
     have b1:=nD (fe ls) (a:=i) (b:=j) (by omega) (by omega)
     have b2:=nD (fe ls) (a:=j+1) (b:=i+zn - 1) (by omega) (by omega)
     have fr:=B0 hls (q:=j) (e:=i+zn - 1) (by omega) (by omega)
     rw [<- hj]
     cases e:fe ls j (i+zn - 1) with
     | true=>
       rw [e] at fr
       have e':sgn (97+lt9 ls j)=sgn (97+fl (lt9 ls (i+zn - 1))):=by rw [of_decide_eq_true fr.symm]
       refine ⟨v+FN (fe ls) i j * FN (fe ls) (j+1) (i+zn - 1),?_,?_⟩
       · rw [hp,Z23,List.sum_append,Z6,List.map_nil,List.sum_cons,List.sum_nil,<- hj]
         unfold flT
         rw [if_pos e]
         omega
       · apply Ev.turn
         walk_at "ev"
         unfold cK
         walk_at "ev"
     | false=>
       rw [e] at fr
       have e':¬ sgn (97+lt9 ls j)=sgn (97+fl (lt9 ls (i+zn - 1))):=fun w=>of_decide_eq_false fr.symm (by have:=sgn_inj.mp w; omega)
       refine ⟨v,?_,?_⟩
       · rw [hp,Z23,List.sum_append,Z6,List.map_nil,List.sum_cons,List.sum_nil,<- hj]
         unfold flT
         rw [if_neg (by rw [e]; simp)]
         omega
       · apply Ev.turn
         walk_at "ev"
         unfold cK
         walk_at "ev") v0 (by simp)
 have hf:v=FN (fe ls) i (i+zn):=by
   rw [c1,hv]
   by_cases h0:zn=0
   · subst h0
     rw [jb _ (by omega)]
     rfl
   · rw [DW (fe ls) (by omega),if_neg (by omega)]
     omega
 subst hf
 exact loop
open PySem L2
local macro_rules | `(tactic| walk_at "ev g8")=>`(tactic| with_reducible apply Ev.zD)
theorem eq0 (z:Int):eqD 4 false (.int z) (.int 0)=some (.bl (decide (z=0))):=x8 z 0
theorem ER (b:Bool):oq [.bl b]=some (.int (if b=true then 1 else 0)):=by cases b <;> rfl
theorem DY {ls:List Nat} (hls:Ls ls) (hl:ls.length<=40) {kvs:List (List Key × D)} {z:Int} (hz:0<=z) (hzn:z<=ls.length) (hk:kvs.length < 5000) (hp:lT kvs) (hg:∀ x y:Int,0<=x->x<=y->y<=ls.length->y - x < z->kw ls kvs x y) :
   ∃ kvs',(∀ x y:Int,0<=x->x<=y->y<=ls.length->y - x < z+1->kw ls kvs' x y)/\lT kvs'/\kvs'.length<=kvs.length+41 /\
     bg (ah 4) dL ((ups 0 ((ls.length:Int)+1 - z).toNat).map D.int) [some (.d (.str (tx9 ls))),some (.d (.int ls.length)),some (.dc kvs),some (.d (.int z)),none,none,none] =
       some (.nx,[some (.d (.str (tx9 ls))),some (.d (.int ls.length)),some (.dc kvs'),some (.d (.int z)),none,none,none]):=by
 obtain ⟨kvs',⟨c1,c3,c2⟩,loop⟩:=ck (g:=ah 4) (f:=dL) (e:=D.int) (l:=ups 0 ((ls.length:Int)+1 - z).toNat) (env:=fun (k:List (List Key × D))=>[some (.d (.str (tx9 ls))),some (.d (.int ls.length)),some (.dc k),some (.d (.int z)),none,none,none])
   (fun pre k=>(∀ x y:Int,0<=x->x<=y->y<=ls.length->(y - x < z∨(y - x=z/\x < pre.length))->kw ls k x y)/\lT k/\k.length<=kvs.length+pre.length)
   (fun pre i post k hsp hp=>by
     obtain ⟨hp1,hp5,hp2⟩:=hp
     obtain ⟨hp3,hp4,_⟩:=eD hsp
     have hlen:=u0 k [.inl i,.inl (i+z)] (.int (FN (fe ls) i (i+z)))
     refine ⟨gV k [.inl i,.inl (i+z)] (.int (FN (fe ls) i (i+z))),⟨?_,rH (P:=fun d=>D.imm d=true) hp5 rfl,by simp; omega⟩,?_⟩
     · intro x y h1 h2 h3 h4
       unfold kw
       rw [uZ]
       by_cases e:x=i/\y=i+z
       · obtain ⟨rfl,rfl⟩:=e
         rw [if_pos rfl]
       · rw [if_neg (by intro h; injection h with ha hb; injection ha with ha; injection hb with hb _; injection hb with hb; exact e ⟨ha,hb⟩)]
         refine hp1 x y h1 h2 h3 ?_
         simp at h4
         omega
     · have lj:=DX hls hl (kvs:=k) (i:=i) (z:=z) (by omega) (by omega) (by omega) (fun x y h1 h2 h3 h4=>hp1 x y h1 h2 h3 (.inl h4)) (n:=ls.length) (if decide (z=0)=true then 1 else 0) (by simp)
       have e0:=eq0 z
       have i0:=ER (decide (z=0))
       have st:gA (i+z - 2) (i - 1) (-2):=⟨by omega,by omega,by omega,by omega,by decide,by decide⟩
       have ng:eV (.int 2)=some (.int (-2)):=rfl
       apply Ev.turn
       walk_at "ev"
       unfold dL
       walk_at "ev") kvs ⟨fun x y h1 h2 h3 h4=>hg x y h1 h2 h3 (by simp at h4; omega),hp,by simp⟩
 rw [eC] at c1 c2
 refine ⟨kvs',fun x y h1 h2 h3 h4=>c1 x y h1 h2 h3 (by omega),c3,by omega,loop⟩
theorem yr {ls:List Nat} (hls:Ls ls) (hl:ls.length<=40):nl [.d (.str (tx9 ls))]=some (.d (.int (FN (fe ls) 0 ls.length))):=by
 have hlen:=BZ (ls:=ls) (by omega)
 obtain ⟨kvs,⟨c1,c2,c3⟩,loop⟩:=ck (g:=ah 3) (f:=fN) (e:=D.int) (l:=ups 0 ((ls.length:Int)+1).toNat) (env:=fun (kvs:List (List Key × D))=>[some (.d (.str (tx9 ls))),some (.d (.int ls.length)),some (.dc kvs),none,none,none,none])
   (fun pre k=>(∀ x y:Int,0<=x->x<=y->y<=ls.length->y - x < pre.length->kw ls k x y)/\lT k/\k.length<=41 * pre.length)
   (fun pre z post k hsp hP=>by
     obtain ⟨p1,p2,p3⟩:=hP
     obtain ⟨e1,e2,_⟩:=eD hsp
     obtain ⟨k',q1,q2,q3,q4⟩:=DY hls hl (kvs:=k) (z:=z) (by omega) (by omega) (by omega) p2 (fun x y h1 h2 h3 h4=>p1 x y h1 h2 h3 (by omega))
     refine ⟨k',⟨fun x y h1 h2 h3 h4=>q1 x y h1 h2 h3 (by simp at h4; omega),q2,by simp; omega⟩,?_⟩
     apply Ev.turn
     walk_at "ev"
     unfold fN
     walk_at "ev") [] ⟨fun x y h1 h2 h3 h4=>by simp at h4; omega,(by intro kv h; cases h),by simp⟩
 rw [eC] at c1 c3
 have g0:aM kvs [.inl 0,.inl (ls.length:Int)]=some (.int (FN (fe ls) 0 ls.length)):=c1 0 ls.length (by omega) (by omega) (by omega) (by omega)
 apply Ev.fn (ρ:=[some (.d (.str (tx9 ls))),none,none,none,none,none,none]) rfl
 unfold lM
 walk_at "ev"
open PySem L2
set_option genInjectivity true in
inductive Rk (M:Int->Int->Bool):Int->Int->List (Int × Int)->Int->Prop
 | nil (a:Int):Rk M a a [] 0
 | hoop {a j b:Int} {p q:List (Int × Int)} {k1 k2:Int}:a < j->j < b->M a j=true->Rk M (a+1) j p k1->Rk M (j+1) b q k2->Rk M a b ((a,j)::(p++q)) (sm (ups (a+1) (j - (a+1)).toNat) (fmT M a b)+k1 * FN M (j+1) b+k2)
theorem Rk.le {M:Int->Int->Bool} {a b k:Int} {sh:List (Int × Int)} (h:Rk M a b sh k):a<=b:=by
 induction h with
 | nil=>exact Z42 _
 | hoop h1 h2 _ _ _ _ _=>omega
theorem Rk.in2 {M:Int->Int->Bool} {a b k:Int} {sh:List (Int × Int)} (h:Rk M a b sh k):∀ p ∈ sh,a<=p.1/\p.1 < p.2/\p.2 < b/\M p.1 p.2=true:=by
 induction h with
 | nil=>intro p hp; cases hp
 | hoop h1 h2 hm h3 h4 i1 i2=>
   intro p hp
   have l1:=h3.le
   have l2:=h4.le
   rcases Z19.mp hp with rfl | hp
   · exact ⟨Z42 _,h1,h2,hm⟩
   · rcases Z11.mp hp with hp | hp
     · obtain ⟨z1,z2,z3,z4⟩:=i1 p hp; exact ⟨by omega,z2,by omega,z4⟩
     · obtain ⟨z1,z2,z3,z4⟩:=i2 p hp; exact ⟨by omega,z2,z3,z4⟩
theorem Rk.rise {M:Int->Int->Bool} {a b k:Int} {sh:List (Int × Int)} (h:Rk M a b sh k):sh.Pairwise fun x y=>x.1 < y.1:=by
 induction h with
 | nil=>exact .nil
 | @hoop a j b p q k1 k2 h1 h2 hm h3 h4 i1 i2=>
   have n1:=h3.in2
   have n2:=h4.in2
   refine .cons (fun x hx=>?_) (Z48.mpr ⟨i1,i2,fun x hx y hy=>?_⟩)
   · rcases Z11.mp hx with hx | hx
     · have:=n1 x hx; dsimp only; omega
     · have:=n2 x hx; dsimp only; omega
   · have z1:=n1 x hx; have z2:=n2 y hy; omega
theorem Rk.len {M:Int->Int->Bool} {a b k:Int} {sh:List (Int × Int)} (h:Rk M a b sh k):2 * (sh.length:Int)=b - a:=by
 induction h with
 | nil=>simp
 | hoop h1 h2 _ _ _ i1 i2=>simp; omega
open PySem L2
theorem Rk.apart {M:Int->Int->Bool} {a b k:Int} {sh:List (Int × Int)} (h:Rk M a b sh k):sh.Pairwise fun x y=>x.1 ≠ y.1/\x.1 ≠ y.2/\x.2 ≠ y.1/\x.2 ≠ y.2:=by
 induction h with
 | nil=>exact .nil
 | @hoop a j b p q k1 k2 h1 h2 hm h3 h4 i1 i2=>
   have n1:=h3.in2
   have n2:=h4.in2
   refine .cons (fun x hx=>?_) (Z48.mpr ⟨i1,i2,fun x hx y hy=>?_⟩)
   · rcases Z11.mp hx with hx | hx
     · have:=n1 x hx; dsimp only; omega
     · have:=n2 x hx; dsimp only; omega
   · have z1:=n1 x hx; have z2:=n2 y hy; omega
set_option genInjectivity true in
inductive RunF (g:MG) (f:MS):List D->En->En->Prop
 | nil (ρ:En):RunF g f [] ρ ρ
 | cons {d:D} {l:List D} {ρ ρ1 ρ2 ρ3:En}:g d ρ=some ρ1->f ρ1=some (.nx,ρ2)->RunF g f l ρ2 ρ3->RunF g f (d::l) ρ ρ3
theorem RunF.app {g:MG} {f:MS} {l m:List D} {ρ ρ1 ρ2:En} (h:RunF g f l ρ ρ1) (k:RunF g f m ρ1 ρ2):RunF g f (l++m) ρ ρ2:=by
 induction h with
 | nil=>exact k
 | cons h1 h2 _ ih=>exact .cons h1 h2 (ih k)
theorem RunF.run {g:MG} {f:MS} {l:List D} {ρ ρ1:En} (h:RunF g f l ρ ρ1):bg g f l ρ=some (.nx,ρ1):=by
 induction h with
 | nil=>rfl
 | cons h1 h2 _ ih=>
   unfold bg
   rw [h1,Z1,h2,Z1]
   exact ih
theorem RunF.one {g:MG} {f:MS} {d:D} {ρ ρ2:En} (h:∃ ρ1,g d ρ=some ρ1/\f ρ1=some (.nx,ρ2)):RunF g f [d] ρ ρ2:=by
 obtain ⟨ρ1,h1,h2⟩:=h
 exact .cons h1 h2 (.nil _)
theorem yt {c:S} {row:List Int} {n:Int} (hn:(row.length:Int)=n) (hn2:n<=1000) {M:Int->Int->Bool} {a b k:Int} {sh:List (Int × Int)} (rk:Rk M a b sh k):0<=a->b<=n->(∀ q ∈ sh,row.getD q.1.toNat 0=q.2/\row.getD q.2.toNat 0=q.1)->∀ ws:List Int,ws.length<=a ->
   RunF (ah 8) dM ((ups a (b - a).toNat).map D.int) [some c,none,some (.d (.lst (row.map D.int))),none,none,none,none,some (.d (.lst (ws.map D.int))),none] [some c,none,some (.d (.lst (row.map D.int))),none,none,none,none,some (.d (.lst (ws.map D.int))),none]:=by
 induction rk with
 | nil a=>
   intro _ _ _ ws _
   rw [show (a - a).toNat=0 by omega]
   exact .nil _
 | @hoop a j b p q k1 k2 h1 h2 hm h3 h4 i1 i2=>
   intro ha hb hr ws hws
   obtain ⟨r1,r2⟩:=hr (a,j) Z16
   dsimp only at r1 r2
   have x1:=dH (l:=row) (i:=a) (by omega)
   have x2:=dH (l:=row) (i:=j) (by omega)
   rw [r1] at x1
   rw [r2] at x2
   have l3:=h3.le
   have l4:=h4.le
   have e:ups a (b - a).toNat=[a]++(ups (a+1) (j - (a+1)).toNat++([j]++ups (j+1) (b - (j+1)).toNat)):=by
     rw [show (b - a).toNat=1+((j - (a+1)).toNat+(1+(b - (j+1)).toNat)) by omega,eF,eF,eF]
     simp only [Int.natCast_one]
     rw [show a+1+((j - (a+1)).toNat:Int)=j by omega]
     simp [ups]
   rw [e]
   simp only [Z23,Z6,List.map_nil]
   have in1:=i1 (by omega) (by omega) (fun z hz=>hr z (Z8 _ (Z37 _ hz))) (ws++[a]) (by simp; omega)
   have in2:=i2 (by omega) (by omega) (fun z hz=>hr z (Z8 _ (Z36 _ hz))) ws (by omega)
   generalize row.map D.int=R at *
   refine .app (.one ?_) (.app in1 (.app (.one ?_) in2))
   · apply Ev.turn
     walk_at "ev"
     unfold dM
     walk_at "ev"
     simp
   · have ne:eqD 4 false (.lst ((ws++[a]).map D.int)) (.lst [])=some (.bl false):=by
       have:=lE (l:=(ws++[a]).map D.int) (bm (fun _=>Z14 rfl) _)
       rw [this]
       simp
     have hp:(List.map D.int (ws++[a]))[(List.map D.int (ws++[a])).length - 1]?=some (.int a):=by simp
     have nj:¬ j < a:=by omega
     have ng:¬ j < a:=by omega
     have eq2:eqD 4 true (.int a) (.int a)=some (.bl false):=by rw [BJ]; simp
     apply Ev.turn
     walk_at "ev"
     unfold dM
     walk_at "ev"
     simp
open PySem L2
theorem aW {l:List Int} {i j:Nat} {x:Int} (h:i ≠ j):(l.set i x).getD j 0=l.getD j 0:=by
 rw [Z5,Z5,List.getElem?_set_ne h]
theorem gS {l:List Int} {i:Nat} {x:Int} (h:i < l.length):(l.set i x).getD i 0=x:=by
 rw [Z5,List.getElem?_set_self h]; rfl
structure FR (n:Int) (pre:List (Int × Int)) (x:List Int × Int):Prop where
 a:(x.1.length:Int)=n
 b:∀ z:Int,0<=z->z < n->(∀ q ∈ pre,q.1 ≠ z/\q.2 ≠ z)->x.1.getD z.toNat 0=-1
 c:∀ q ∈ pre,x.1.getD q.1.toNat 0=q.2/\x.1.getD q.2.toNat 0=q.1
 d:x.2=-1∨∃ q ∈ pre,x.2=q.1
theorem yu {ls:List Nat} (hls:Ls ls) (hl:ls.length<=40) {sh:List (Int × Int)} {k:Int} (rk:Rk (fe ls) 0 ls.length sh k):nq [.d (.str (tx9 ls)),.d (.tup (sh.map ac))]=some (.d (.bl true)):=by
 have hlen:=BZ (ls:=ls) (by omega)
 have hsl:=rk.len
 have hin:=rk.in2
 have hri:=rk.rise
 have hap:=rk.apart
 have hln:bT [.tup (sh.map ac)]=some (.int sh.length):=by rw [BK,Z2]
 have rp:=oZ (n:=ls.length) (d:=.int (-1)) (by omega)
 have ng:eV (.int 1)=some (.int (-1)):=rfl
 obtain ⟨⟨row,bh⟩,I,loop⟩:=ck (g:=ah 4) (f:=fO) (e:=ac) (l:=sh) (env:=fun (x:List Int × Int)=>[some (.d (.str (tx9 ls))),some (.d (.tup (sh.map ac))),some (.d (.lst (x.1.map D.int))),some (.d (.int x.2)),none,none,none,none,none])
   (fun pre x=>FR ls.length pre x)
   (fun pre p post x hsp I=>by
     obtain ⟨row,bh⟩:=x
     obtain ⟨a,b,c,d⟩:=I
     dsimp only at a b c d
     have pin:=hin p (by rw [hsp]; simp)
     rw [hsp] at hri hap
     have hri:=(Z48.mp hri).2.2
     have hap:=(Z48.mp hap).2.2
     have hp:∀ q ∈ pre,q.1 < p.1/\q.1 ≠ p.1/\q.1 ≠ p.2/\q.2 ≠ p.1/\q.2 ≠ p.2:=fun q hq=>⟨hri q hq p Z16,hap q hq p Z16⟩
     have hqi:∀ q ∈ pre,0<=q.1/\q.1 < q.2:=fun q hq=>by have:=hin q (by rw [hsp]; simp [hq]); omega
     obtain ⟨i,j⟩:=p
     dsimp only at pin hp
     obtain ⟨p1,p2,p3,p4⟩:=pin
     have bi:=b i (by omega) (by omega) fun q hq=>by have:=hp q hq; omega
     have bj:=b j (by omega) (by omega) fun q hq=>by have:=hp q hq; omega
     have xi:=dH (l:=row) (i:=i) (by omega)
     have xj:=dH (l:=row) (i:=j) (by omega)
     rw [bi] at xi
     rw [bj] at xj
     have ci:=ix9 (ls:=ls) (by omega) (i:=i) (by omega)
     have cj:=ix9 (ls:=ls) (by omega) (i:=j) (by omega)
     have fa:=fh (lR hls (i:=i) (by omega))
     have e':sgn (97+lt9 ls j)=sgn (97+fl (lt9 ls i)):=by rw [of_decide_eq_true p4]
     rw [<- e'] at fa
     have hb:bh < i:=by
       rcases d with d | ⟨q,hq,d⟩
       · omega
       · have:=hp q hq; omega
     refine ⟨((row.set i.toNat j).set j.toNat i,i),⟨by simp; omega,fun z z0 z1 hz=>?_,fun q hq=>?_,.inr ⟨(i,j),by simp,rfl⟩⟩,?_⟩
     · dsimp only at z1 ⊢
       have hz1:=hz (i,j) (by simp)
       dsimp only at hz1
       rw [aW (by omega),aW (by omega)]
       exact b z z0 z1 fun q hq=>hz q (by simp [hq])
     · dsimp only
       rcases Z11.mp hq with hq | hq
       · have h1:=hp q hq
         have h2:=hqi q hq
         have h3:=c q hq
         rw [aW (by omega),aW (by omega),aW (by omega),aW (by omega)]
         exact h3
       · rw [Z12] at hq
         subst hq
         dsimp only
         rw [aW (by omega),gS (by omega),gS (by simp; omega)]
         exact ⟨rfl,rfl⟩
     · have i1:(!n9 (jL (ac (i,j))) "tuple")=false:=rfl
       have lp:bT [ac (i,j)]=some (.int 2):=rfl
       have w1:oV [.d (.int i)]=some (.d (.bl true)):=rfl
       have w2:oV [.d (.int j)]=some (.d (.bl true)):=rfl
       have gi:¬ (-1:Int) < -1:=by decide
       have es:eqD 4 true (.str (sgn (97+lt9 ls j))) (.str (sgn (97+lt9 ls j)))=some (.bl false):=by rw [Dy]; simp
       dsimp only
       rw [List.map_set,List.map_set]
       have lr:(row.map D.int).length=ls.length:=by simp; omega
       generalize row.map D.int=R at *
       apply Ev.turn
       walk_at "ev"
       unfold fO
       walk_at "ev") (List.replicate ls.length (-1),-1) ⟨by simp,fun z z0 z1 _=>by
         dsimp only
         rw [Z5,List.getElem?_replicate,if_pos (by omega)]; rfl,(fun q hq=>by cases hq),.inl rfl⟩
 obtain ⟨a,b,c,d⟩:=I
 dsimp only at a b c d loop
 have wk:=(yt (c:=.d (.str (tx9 ls))) (row:=row) a (by omega) rk (Z42 _) (Z42 _) c [] (by simp)).run
 rw [show ((ls.length:Int) - 0).toNat=((ls.length:Int)).toNat by omega] at wk
 rw [List.map_replicate] at loop
 rw [show ((ls.length:Int)).toNat=ls.length by omega] at rp
 simp only [List.map_nil] at wk
 have it:(!n9 (jL (.tup (sh.map ac))) "tuple")=false:=rfl
 have e2:eqD 4 true (.int (2 * (sh.length:Int))) (.int (ls.length:Int))=some (.bl false):=by
   rw [BJ,hsl]; simp
 generalize row.map D.int=R at *
 generalize sh.map ac=Sm at *
 apply Ev.fn (ρ:=[some (.d (.str (tx9 ls))),some (.d (.tup Sm)),none,none,none,none,none,none,none]) rfl
 unfold lN
 walk_at "ev"
open PySem L2
set_option genInjectivity true in
inductive Fu (M:Int->Int->Bool):Int->Int->List (Int × Int)->Prop
 | nil (a:Int):Fu M a a []
 | hoop {a j b:Int} {p q:List (Int × Int)}:a < j->j < b->M a j=true->Fu M (a+1) j p->Fu M (j+1) b q->Fu M a b ((a,j)::(p++q))
theorem Fu.cat {M:Int->Int->Bool} {a b c:Int} {x y:List (Int × Int)} (h:Fu M a b x) (k:Fu M b c y):Fu M a c (x++y):=by
 have le:∀ {a b:Int} {x:List (Int × Int)},Fu M a b x->a<=b:=fun h=>by
   induction h with
   | nil=>exact Z42 _
   | hoop h1 h2 _ _ _ _ _=>omega
 have hk:=le k
 induction h with
 | nil=>exact k
 | @hoop a j b p q h1 h2 hm h3 h4 i1 i2=>
   have:=Fu.hoop h1 (show j < c by omega) hm h3 (i2 k hk)
   rw [<- List.append_assoc] at this
   exact this
theorem Fu.mono {M M':Int->Int->Bool} {a b:Int} {x:List (Int × Int)} (h:Fu M a b x) (hm:∀ p ∈ x,M' p.1 p.2=true):Fu M' a b x:=by
 induction h with
 | nil=>exact .nil _
 | hoop h1 h2 _ _ _ i1 i2=>exact .hoop h1 h2 (hm _ Z16) (i1 fun p hp=>hm p (Z8 _ (Z37 _ hp))) (i2 fun p hp=>hm p (Z8 _ (Z36 _ hp)))
theorem Fu.one {M:Int->Int->Bool} {a j:Int} {x:List (Int × Int)} (h:Fu M (a+1) j x) (hj:a < j) (hm:M a j=true):Fu M a (j+1) ((a,j)::x):=by
 have:=Fu.hoop hj (show j < j+1 by omega) hm h (.nil (j+1))
 rw [Z35] at this
 exact this
theorem Fu.mem {M:Int->Int->Bool} {a b:Int} {x:List (Int × Int)} (h:Fu M a b x):∃ r ∈ FP M a b,r.2=x:=by
 induction h with
 | nil a=>exact ⟨([],[]),by rw [u9 M (Z42 _)]; simp,rfl⟩
 | @hoop a j b p q h1 h2 hm h3 h4 i1 i2=>
   obtain ⟨r1,m1,e1⟩:=i1
   obtain ⟨r2,m2,e2⟩:=i2
   refine ⟨yi a j r1 r2,?_,by unfold yi; rw [e1,e2]⟩
   rw [qe M (by omega)]
   refine List.mem_flatMap.mpr ⟨j,ups_in.mpr (by omega),?_⟩
   unfold FPj
   rw [if_pos hm]
   exact List.mem_flatMap.mpr ⟨r1,m1,Z18.mpr ⟨r2,m2,rfl⟩⟩
theorem Fu.rk {M:Int->Int->Bool} {a b:Int} {x:List (Int × Int)} (h:Fu M a b x):∃ k,Rk M a b x k:=by
 induction h with
 | nil a=>exact ⟨0,.nil a⟩
 | hoop h1 h2 hm _ _ i1 i2=>
   obtain ⟨k1,r1⟩:=i1
   obtain ⟨k2,r2⟩:=i2
   exact ⟨_,.hoop h1 h2 hm r1 r2⟩
set_option genInjectivity true in
inductive Sg (M:Int->Int->Bool):Int->Int->List Int->List (Int × Int)->Prop
 | nil {a b:Int} {x:List (Int × Int)}:Fu M a b x->Sg M a b [] x
 | cons {a b w:Int} {ws:List Int} {x y:List (Int × Int)}:Sg M a w ws x->Fu M (w+1) b y->Sg M a b (ws++[w]) (x++y)
theorem Sg.le {M:Int->Int->Bool} {a b:Int} {ws:List Int} {x:List (Int × Int)} (h:Sg M a b ws x):a<=b:=by
 have le:∀ {a b:Int} {x:List (Int × Int)},Fu M a b x->a<=b:=fun h=>by
   induction h with
   | nil=>exact Z42 _
   | hoop h1 h2 _ _ _ _ _=>omega
 induction h with
 | nil h=>exact le h
 | cons _ h ih=>have:=le h; omega
theorem Sg.push {M:Int->Int->Bool} {a b:Int} {ws:List Int} {x:List (Int × Int)} (h:Sg M a b ws x):Sg M a (b+1) (ws++[b]) x:=by
 have:=Sg.cons h (.nil (b+1))
 rw [Z35] at this
 exact this
theorem Sg.ext {M:Int->Int->Bool} {a b c:Int} {ws:List Int} {x y:List (Int × Int)} (h:Sg M a b ws x) (k:Fu M b c y):Sg M a c ws (x++y):=by
 cases h with
 | nil h=>exact .nil (h.cat k)
 | cons h1 h2=>rw [List.append_assoc]; exact .cons h1 (h2.cat k)
theorem Sg.shut {M:Int->Int->Bool} {a b w:Int} {ws:List Int} {x:List (Int × Int)} (h:Sg M a b (ws++[w]) x) (hm:∀ u v,M u v=true):∃ y,y.Perm ((w,b)::x)/\Sg M a (b+1) ws y:=by
 generalize e:ws++[w]=zs at h
 cases h with
 | nil h=>simp at e
 | @cons _ w' ws' x' y' h1 h2=>
   obtain ⟨rfl,e2⟩:=List.append_inj' e rfl
   injection e2 with e2 _
   subst e2
   have le:=Sg.le (Sg.nil (a:=w+1) h2)
   refine ⟨x'++((w,b)::y'),?_,h1.ext (Fu.one h2 (by omega) (hm _ _))⟩
   exact List.perm_middle
open PySem L2
@[reducible] noncomputable def stS (s:Int):S:=.d (.lst [.int s])
theorem yv (s:Int):iH (.d (.lst [.int s]))=some (.d (.lst [.int s])):=rfl
theorem vm (s t:Int):pL (.d (.lst [.int s])) (.d (.lst [.int t]))=some (.d (.lst [.int t])):=rfl
local macro_rules | `(tactic| walk_at "evC")=>`(tactic| first | with_reducible exact Mir.yv _ | with_reducible exact Mir.vm _ _)
theorem yw {ps ls:List (Int × Int)} (hr:ls.Pairwise fun a b=>a.1 < b.1) (hl:ps.length < 64) (hp:ps.Perm ls):Srt.gO [.lst (ps.map ac)]=some (.lst (ls.map ac)):=by
 obtain ⟨q,q1,q2,q3⟩:=oR hl
 rw [q3]
 have e:q=ls:=by
   refine List.Perm.eq_of_pairwise (le:=fun a b=>pLe a b=true) (fun a b _ _ x y=>?_) q2 (hr.imp fun {a b} z=>(lG a b).mpr (.inl z)) (q1.trans hp)
   have x':=(lG a b).mp x
   have y':=(lG b a).mp y
   exact Prod.ext (by omega) (by omega)
 rw [e]
structure FI (h:Int) (k:Nat) (x:Int × List (Int × Int) × List Int × Int):Prop where
 a:x.2.2.1.length+2 * x.2.1.length=k
 b:x.2.2.2=h - x.2.2.1.length - x.2.1.length
 c:0<=x.2.2.2
 d:∀ p ∈ x.2.1,0<=p.1/\p.1 < p.2/\p.2 < k
 e:∀ p ∈ x.2.2.1,0<=p/\p < k
theorem FI.push {h:Int} {k:Nat} {s s':Int} {ps:List (Int × Int)} {ws:List Int} {lf:Int} (I:FI h k (s,ps,ws,lf)) (hl:0 < lf):FI h (k+1) (s',ps,ws++[(k:Int)],lf - 1):=by
 obtain ⟨a,b,c,d,e⟩:=I
 dsimp only at a b c d e
 refine ⟨by simp; omega,by simp; omega,by dsimp only; omega,fun p hp=>by have:=d p hp; omega,fun p hp=>?_⟩
 rcases Z11.mp hp with hp | hp
 · have:=e p hp; omega
 · rw [Z12] at hp; omega
theorem FI.shut {h:Int} {k:Nat} {s s':Int} {ps:List (Int × Int)} {ws:List Int} {w lf:Int} (I:FI h k (s,ps,ws++[w],lf)):FI h (k+1) (s',ps++[(w,(k:Int))],ws,lf):=by
 obtain ⟨a,b,c,d,e⟩:=I
 dsimp only at a b c d e
 simp at a b
 have hw:=e w (by simp)
 refine ⟨by simp; omega,by simp; omega,by dsimp only; omega,fun p hp=>?_,fun p hp=>by have:=e p (by simp [hp]); omega⟩
 rcases Z11.mp hp with hp | hp
 · have:=d p hp; omega
 · rw [List.mem_singleton] at hp; subst hp; dsimp only; omega
noncomputable abbrev tt2:Int->Int->Bool:=fun _ _=>true
structure FJ (h:Int) (k:Nat) (x:Int × List (Int × Int) × List Int × Int):Prop extends FI h k x where
 f:∃ y,Sg tt2 0 k x.2.2.1 y/\x.2.1.Perm y
theorem FJ.push {h:Int} {k:Nat} {s s':Int} {ps:List (Int × Int)} {ws:List Int} {lf:Int} (I:FJ h k (s,ps,ws,lf)) (hl:0 < lf):FJ h (k+1) (s',ps,ws++[(k:Int)],lf - 1):=by
 obtain ⟨y,y1,y2⟩:=I.f
 refine ⟨I.toFI.push hl,y,?_,y2⟩
 have:=y1.push
 exact_mod_cast this
theorem FJ.shut {h:Int} {k:Nat} {s s':Int} {ps:List (Int × Int)} {ws:List Int} {w lf:Int} (I:FJ h k (s,ps,ws++[w],lf)):FJ h (k+1) (s',ps++[(w,(k:Int))],ws,lf):=by
 obtain ⟨y,y1,y2⟩:=I.f
 obtain ⟨z,z1,z2⟩:=Sg.shut y1 (fun _ _=>rfl)
 refine ⟨I.toFI.shut,z,by exact_mod_cast z2,?_⟩
 have a:(ps++[(w,(k:Int))]).Perm ((w,(k:Int))::ps):=List.perm_append_singleton _ _
 exact a.trans ((List.Perm.cons _ y2).trans z1.symm)
theorem rQ {h:Int} (hh:0<=h/\h<=21) {k:Nat} (hk:(k:Int) < 2 * h) {s:Int} {ps:List (Int × Int)} {ws:List Int} {lf:Int} (I:FJ h k (s,ps,ws,lf)) :
   ∃ x,FJ h (k+1) x/\∃ ρ1,ah 5 (.int (k:Int)) [some (stS s),some (.d (.int h)),some (.d (.lst (ps.map ac))),some (.d (.lst (ws.map D.int))),some (.d (.int lf)),none]=some ρ1/\bE ρ1=some (.nx,[some (stS x.1),some (.d (.int h)),some (.d (.lst (x.2.1.map ac))),some (.d (.lst (x.2.2.1.map D.int))),some (.d (.int x.2.2.2)),none]):=by
 have ha:ws.length+2 * ps.length=k:=I.a
 have hb:lf=h - ws.length - ps.length:=I.b
 have hc:0<=lf:=I.c
 have tk:=qi s (n:=5) (by decide) (by decide)
 by_cases c1:0 < lf
 · rcases List.eq_nil_or_concat ws with e | ⟨ws',w,e⟩
   · subst e
     refine ⟨_,I.push (s':=s) c1,?_⟩
     have en:eqD 4 false (.lst []) (.lst [])=some (.bl true):=rfl
     apply Ev.turn
     walk_at "ev"
     unfold bE
     walk_at "ev"
     rfl
   · rw [List.concat_eq_append] at e
     subst e
     have en:eqD 4 false (.lst ((ws'++[w]).map D.int)) (.lst [])=some (.bl false):=by
       have:=lE (l:=(ws'++[w]).map D.int) (bm (fun _=>Z14 rfl) _)
       rw [this]
       simp
     have hp:(List.map D.int (ws'++[w]))[(List.map D.int (ws'++[w])).length - 1]?=some (.int w):=by simp
     have hln:bT [.lst ((ws'++[w]).map D.int)]=some (.int ((ws'++[w]).length:Int)):=by
       have:=yb (l:=(ws'++[w]).map D.int)
       rw [Z2] at this
       exact this
     by_cases c2:s % 5 < 2+((ws'++[w]).length:Int) % 2
     · refine ⟨_,I.push (s':=s / 5) c1,?_⟩
       dsimp only
       apply Ev.turn
       walk_at "ev"
       unfold bE
       walk_at "ev"
       simp only [Z23,Z6,List.map_nil]
     · refine ⟨_,I.shut (s':=s / 5),?_⟩
       dsimp only
       apply Ev.turn
       walk_at "ev"
       unfold bE
       walk_at "ev"
       simp
 · rcases List.eq_nil_or_concat ws with e | ⟨ws',w,e⟩
   · subst e
     simp at ha hb
     omega
   · rw [List.concat_eq_append] at e
     subst e
     have hp:(List.map D.int (ws'++[w]))[(List.map D.int (ws'++[w])).length - 1]?=some (.int w):=by simp
     refine ⟨_,I.shut (s':=s),?_⟩
     dsimp only
     apply Ev.turn
     walk_at "ev"
     unfold bE
     walk_at "ev"
     simp
theorem o6 (s:Int) {h:Int} (hh:0<=h/\h<=21):∃ (sh:List (Int × Int)) (s':Int),Fu tt2 0 (2 * h) sh/\nh [stS s,.d (.int h)]=some (.d (.tup (sh.map ac)),stS s'):=by
 obtain ⟨⟨s1,ps,ws,lf⟩,I,loop⟩:=ck (g:=ah 5) (f:=bE) (e:=D.int) (l:=ups 0 (2 * h).toNat) (env:=fun (x:Int × List (Int × Int) × List Int × Int)=>[some (stS x.1),some (.d (.int h)),some (.d (.lst (x.2.1.map ac))),some (.d (.lst (x.2.2.1.map D.int))),some (.d (.int x.2.2.2)),none])
   (fun pre x=>FJ h pre.length x)
   (fun pre a post x hsp hP=>by
     obtain ⟨s,ps,ws,lf⟩:=x
     obtain ⟨a1,a2,_⟩:=eD hsp
     have ea:a=(pre.length:Int):=by omega
     subst ea
     obtain ⟨x,I,t⟩:=rQ hh (k:=pre.length) (by omega) hP
     exact ⟨x,by simpa using I,t⟩) (s,[],[],h) ⟨⟨rfl,by simp,hh.1,by simp,by simp⟩,[],.nil (.nil 0),.nil⟩
 rw [eC] at I
 obtain ⟨⟨a,b,c,d,e⟩,y,y1,y2⟩:=I
 dsimp only at a b c d e y1 y2 loop
 have w0:ws=[]:=List.eq_nil_of_length_eq_zero (by omega)
 subst w0
 rw [show (((2 * h).toNat:Nat):Int)=2 * h by omega] at y1
 generalize ez:([]:List Int)=zs at y1
 cases y1 with
 | cons h1 h2=>simp at ez
 | nil fu=>
   obtain ⟨kk,rk⟩:=fu.rk
   have so:=yw rk.rise (ps:=ps) (by simp at a; omega) y2
   refine ⟨y,s1,fu,?_⟩
   apply Ev.fnM (ρ:=[some (stS s),some (.d (.int h)),none,none,none,none]) rfl
   unfold lK
   walk_at "ev"
open PySem L2 Builtin.Str
theorem eG (s:Int) {n:Int} (h:0 < n) (hb:n < 1000000):∃ w s':Int,0<=w/\w < n/\fL [.d (.lst [.int s]),.d (.int n)]=some (.d (.int w),.d (.lst [.int s'])):=
 ⟨s % n,s / n,Int.emod_nonneg _ (by omega),Int.emod_lt_of_pos _ h,qi s h (BX (n:=20) (by omega) (by omega) (by omega))⟩
@[reducible] noncomputable def clD (w:List Nat):D:=.str (tx9 w)
theorem yy (ws:List (List Nat)):Txt.join (Str.ofString "") (ws.map txt)=txt ws.flatten:=by
 have e:(Txt.join Str.empty (ws.map txt)).cps.toList=ws.flatten:=by
   rw [oh,Z31]
   induction ws with
   | nil=>rfl
   | cons c r ih=>rw [Z6,Z39,ih]; rfl
 rw [show (Str.ofString "")=Str.empty by decide +kernel]
 show _=(⟨ws.flatten.toArray⟩:Str)
 generalize Txt.join Str.empty (ws.map txt)=z at e
 rw [<- e]
theorem yz {ws:List (List Nat)} (hf:ws.flatten.length < 10000):uh (Str.ofString "") [.lst (ws.map clD)]=some (.str (tx9 ws.flatten)):=by
 have e:ws.map clD=((ws.map fun w=>w.map (97+·)).map txt).map D.str:=by rw [Z31,Z31]; rfl
 rw [e]
 show (fH (((ws.map fun w=>w.map (97+·)).map txt).map D.str)).bind _=_
 have hs:∀ ws:List (List Nat),(((ws.map fun w=>w.map (97+·)).map txt).map (·.length)).sum=ws.flatten.length:=by
   intro ws
   induction ws with
   | nil=>rfl
   | cons c r ih=>rw [Z6,Z6,Z6,List.sum_cons,ih,Z39,Z17,h8,Z2]
 rw [ug,Z1,if_pos (by rw [hs,show (Str.ofString "").length=0 by decide +kernel]; omega),yy]
 unfold tx9
 rw [List.map_flatten]
noncomputable def vo (m:Nat) (w:List Nat):Prop:=w.length<=1/\∀ x ∈ w,x < m
theorem DZ {x m:Nat} (h:x < m) (hm:m % 2=0):fl x < m:=by unfold fl; split <;> omega
theorem D0 {m x:Nat} (h:x < m):vo m [x]:=⟨Z10 1,fun y hy=>by rw [Z12] at hy; omega⟩
theorem nF {m:Nat} {ws:List (List Nat)} (h:∀ w ∈ ws,vo m w) {x:Nat} (hx:x < m) (i:Nat):∀ w ∈ ws.set i [x],vo m w:=by
 intro w hw
 rcases List.mem_or_eq_of_mem_set hw with hw | rfl
 · exact h w hw
 · exact D0 hx
theorem vp {m:Nat} {ws:List (List Nat)} (h:∀ w ∈ ws,vo m w):∀ x ∈ ws.flatten,x < m:=by
 intro x hx
 obtain ⟨w,hw,hx⟩:=List.mem_flatten.mp hx
 exact (h w hw).2 x hx
theorem Fu.rng {M:Int->Int->Bool} {a b:Int} {x:List (Int × Int)} (h:Fu M a b x):∀ p ∈ x,a<=p.1/\p.1 < p.2/\p.2 < b:=by
 obtain ⟨k,rk⟩:=h.rk
 intro p hp
 have:=rk.in2 p hp
 omega
theorem Fu.all {M:Int->Int->Bool} {a b:Int} {x:List (Int × Int)} (h:Fu M a b x):∀ z,a<=z->z < b->∃ q ∈ x,q.1=z∨q.2=z:=by
 induction h with
 | nil=>intro z h1 h2; omega
 | @hoop a j b p q h1 h2 hm h3 h4 i1 i2=>
   intro z z1 z2
   by_cases e:z=a
   · exact ⟨(a,j),Z16,.inl e.symm⟩
   · by_cases e2:z=j
     · exact ⟨(a,j),Z16,.inr e2.symm⟩
     · by_cases e3:z < j
       · obtain ⟨r,r1,r2⟩:=i1 z (by omega) e3
         exact ⟨r,Z8 _ (Z37 _ r1),r2⟩
       · obtain ⟨r,r1,r2⟩:=i2 z (by omega) z2
         exact ⟨r,Z8 _ (Z36 _ r1),r2⟩
theorem o7 {ws:List (List Nat)} (h:∀ i:Nat,i < ws.length->∃ x,ws[i]?=some [x]):∃ ls:List Nat,ws.flatten=ls/\ls.length=ws.length/\∀ i x,ws[i]?=some [x]->ls.getD i 0=x:=by
 refine ⟨ws.map fun w=>w.headD 0,?_,by simp,fun i x e=>by rw [Z5,Z21,e]; rfl⟩
 induction ws with
 | nil=>rfl
 | cons w ws ih=>
   obtain ⟨x,e⟩:=h 0 (by simp)
   have e:w=[x]:=by simpa using e
   subst e
   rw [Z39,ih fun i hi=>by simpa using h (i+1) (by simp; omega)]
   rfl
theorem jf (s:Int) {sh:List (Int × Int)} {h c:Int} (fu:Fu tt2 0 (2 * h) sh) (hh:h<=21) (hc:0 < c/\c<=13) :
   ∃ (ls:List Nat) (s':Int),(∀ x ∈ ls,(x:Int) < 2 * c)/\(ls.length:Int)=2 * h/\Fu (fe ls) 0 ls.length sh/\ni [stS s,.d (.tup (sh.map ac)),.d (.int c)]=some (.d (.str (tx9 ls)),stS s'):=by
 have hi:=fu.rng
 obtain ⟨kk,rk⟩:=fu.rk
 have hl:(sh.length:Int)=h:=by have:=rk.len; omega
 have hap:=rk.apart
 have hln:bT [.tup (sh.map ac)]=some (.int h):=by rw [BK,Z2,hl]
 obtain ⟨⟨s1,ws⟩,⟨w1,w2,w3⟩,loop⟩:=ck (g:=bJ 2 (aD (ah 4) (aD (ah 5) bU))) (f:=fM) (e:=ac) (l:=sh) (env:=fun (x:Int × List (List Nat))=>[some (stS x.1),some (.d (.tup (sh.map ac))),some (.d (.int c)),some (.d (.lst (x.2.map clD))),none,none])
   (fun pre x=>(x.2.length:Int)=2 * h/\(∀ w ∈ x.2,vo (2 * c).toNat w)/\∀ q ∈ pre,∃ y:Nat,y < 26/\x.2[q.1.toNat]?=some [y]/\x.2[q.2.toNat]?=some [fl y])
   (fun pre p post x hsp hP=>by
     obtain ⟨s,ws⟩:=x
     obtain ⟨hw1,hw2,hw3⟩:=hP
     dsimp only at hw1 hw2 hw3
     have hp:=hi p (by rw [hsp]; simp)
     have hq:∀ q ∈ pre,0<=q.1/\q.1 < q.2/\q.1 ≠ p.1/\q.1 ≠ p.2/\q.2 ≠ p.1/\q.2 ≠ p.2:=fun q hq=>by
       have h1:=hi q (by rw [hsp]; simp [hq])
       rw [hsp] at hap
       have h2:=(Z48.mp hap).2.2 q hq p Z16
       omega
     obtain ⟨i,j⟩:=p
     dsimp only at hp hq
     obtain ⟨t,s',t0,t1,tk⟩:=eG s (n:=2 * c) (by omega) (by omega)
     have hx:t.toNat < 26:=by omega
     have hx2:t.toNat < (2 * c).toNat:=by omega
     have lx:=oY (x:=t.toNat) (i:=t) hx (by omega)
     have lf:=fh hx
     refine ⟨(s',(ws.set i.toNat [t.toNat]).set j.toNat [fl t.toNat]),⟨by simp; omega,nF (nF hw2 hx2 _) (DZ hx2 (by omega)) _,fun q hqm=>?_⟩,?_⟩
     · dsimp only
       rcases Z11.mp hqm with hqm | hqm
       · have h1:=hq q hqm
         rw [List.getElem?_set_ne (by omega),List.getElem?_set_ne (by omega),List.getElem?_set_ne (by omega),List.getElem?_set_ne (by omega)]
         exact hw3 q hqm
       · rw [Z12] at hqm
         subst hqm
         dsimp only
         refine ⟨t.toNat,hx,?_,?_⟩
         · rw [List.getElem?_set_ne (by omega),List.getElem?_set_self (by omega)]
         · rw [List.getElem?_set_self (by simp; omega)]
     have e1:∀ x:Nat,D.str (sgn (97+x))=clD [x]:=fun x=>rfl
     rw [e1] at lx
     rw [e1,e1] at lf
     have ix:ixD (.lst ((ws.map clD).set i.toNat (clD [t.toNat]))) (.int i)=some (clD [t.toNat]):=by
       show atI _ i=_
       rw [eB (by simp; omega),List.getElem?_set_self (by simp; omega)]
     dsimp only
     rw [List.map_set,List.map_set]
     generalize clD [t.toNat]=A at *
     generalize clD [fl t.toNat]=B at *
     apply Ev.turn
     walk_at "ev"
     unfold fM
     walk_at "ev") (s,List.replicate (2 * h).toNat []) ⟨by simp; omega,(fun w hw=>by rw [List.eq_of_mem_replicate hw]; exact ⟨Z30 _,fun x hx=>by cases hx⟩),fun q hq=>by cases hq⟩
 dsimp only at w1 w2 w3 loop
 obtain ⟨ls,f1,f2,f3⟩:=o7 (ws:=ws) fun i hi=>by
   obtain ⟨q,q1,q2⟩:=fu.all (i:Int) (by omega) (by omega)
   obtain ⟨y,y0,y1,y2⟩:=w3 q q1
   rcases q2 with q2 | q2
   · rw [q2] at y1; exact ⟨y,by simpa using y1⟩
   · rw [q2] at y2; exact ⟨fl y,by simpa using y2⟩
 have jn:=yz (ws:=ws) (by rw [f1]; omega)
 have cl:=vp w2
 rw [f1] at jn cl
 have rp:=oZ (n:=2 * h) (d:=.str (Str.ofString "")) (by omega)
 rw [List.map_replicate] at loop
 have e0:clD []=.str (Str.ofString ""):=by show D.str (txt [])=_; rw [DT]
 rw [e0] at loop
 refine ⟨ls,s1,fun x hx=>(by have:=cl x hx; omega),by omega,?_,?_⟩
 · have:=fu.mono (M':=fe ls) fun p hp=>by
     obtain ⟨y,y0,y1,y2⟩:=w3 p hp
     have g1:=f3 _ _ y1
     have g2:=f3 _ _ y2
     unfold fe lt9
     rw [g1,g2]
     exact decide_eq_true rfl
   rw [show (ls.length:Int)=2 * h by omega]
   exact this
 generalize tx9 ls=T at *
 apply Ev.fnM (ρ:=[some (stS s),some (.d (.tup (sh.map ac))),some (.d (.int c)),none,none,none]) rfl
 unfold lL
 walk_at "ev"
open PySem L2
set_option genInjectivity true in
inductive Gd (L:Int->Nat) (g:Nat->Nat):List Nat->Option Nat->Int->Int->Prop
 | nil (us:List Nat) (o:Option Nat) (a:Int):Gd L g us o a a
 | hoop {us:List Nat} {o:Option Nat} {a j b:Int}:a < j->j < b->L j=g (L a)->L a ∉ us->o ≠ some (L a)->Gd L g [] (some (L j)) (a+1) j->Gd L g (L a::us) o (j+1) b->Gd L g us o a b
open PySem L2
section
variable (L:Int->Nat) (g:Nat->Nat)
noncomputable def rdS (st:List Nat) (x:Nat):List Nat:=match st with
 | t::r=>if t=g x then r else x::t::r
 | []=>[x]
noncomputable def RdS:List Nat->Prop
 | t::u::r=>t ≠ g u/\RdS (u::r)
 | _=>True
noncomputable def bF (a:Int):Nat->List Nat->List Nat
 | 0,st=>st
 | n+1,st=>bF (a+1) n (rdS g st (L a))
theorem nG:∀ (n m:Nat) (a:Int) (st:List Nat),bF L g a (n+m) st=bF L g (a+n) m (bF L g a n st)
 | 0,m,a,st=>by simp [bF]
 | n+1,m,a,st=>by
   rw [show n+1+m=(n+m)+1 by omega]
   show bF L g (a+1) (n+m) _=_
   rw [nG n m,show a+1+(n:Int)=a+((n+1:Nat):Int) by omega]
   rfl
theorem eI {a j b:Int} (h1:a < j) (h2:j < b) (st:List Nat):bF L g a (b - a).toNat st=bF L g (j+1) (b - (j+1)).toNat (rdS g (bF L g (a+1) (j - (a+1)).toNat (rdS g st (L a))) (L j)):=by
 rw [show (b - a).toNat=((j - (a+1)).toNat+((b - (j+1)).toNat+1))+1 by omega]
 show bF L g (a+1) ((j - (a+1)).toNat+((b - (j+1)).toNat+1)) (rdS g st (L a))=_
 rw [nG,show a+1+((j - (a+1)).toNat:Int)=j by omega]
 rfl
variable {g} (hg:∀ x,g (g x)=x)
include hg
theorem vq {st:List Nat} (h:RdS g st) (x:Nat):rdS g (rdS g st x) (g x)=st:=by
 cases st with
 | nil=>simp [rdS,hg]
 | cons t r=>
   by_cases c:t=g x
   · have e:rdS g (t::r) x=r:=by simp [rdS,c]
     rw [e]
     cases r with
     | nil=>simp [rdS,c]
     | cons u r=>
       have:u ≠ x:=fun z=>h.1 (by rw [z]; exact c)
       simp [rdS,hg,this,c]
   · have e:rdS g (t::r) x=x::t::r:=by simp [rdS,c]
     rw [e]
     simp [rdS,hg]
theorem RdS.step {st:List Nat} (h:RdS g st) (x:Nat):RdS g (rdS g st x):=by
 cases st with
 | nil=>simp [rdS,RdS]
 | cons t r=>
   by_cases c:t=g x
   · have e:rdS g (t::r) x=r:=by simp [rdS,c]
     rw [e]
     cases r with
     | nil=>trivial
     | cons u r=>exact h.2
   · have e:rdS g (t::r) x=x::t::r:=by simp [rdS,c]
     rw [e]
     exact ⟨fun z=>c (by rw [z,hg]),h⟩
theorem Fu.still {M:Int->Int->Bool} (hM:∀ i j,M i j=true->L j=g (L i)) {a b:Int} {x:List (Int × Int)} (h:Fu M a b x):∀ {st:List Nat},RdS g st->bF L g a (b - a).toNat st=st:=by
 induction h with
 | nil a=>intro st _; rw [show (a - a).toNat=0 by omega]; rfl
 | @hoop a j b p q h1 h2 hm h3 h4 i1 i2=>
   intro st hs
   rw [eI L g h1 h2,i1 (hs.step hg _),hM _ _ hm,vq hg hs,i2 hs]
omit hg
noncomputable def Cmp (g:Nat->Nat) (st:List Nat) (o:Option Nat):Prop:=∀ t r,st=t::r->o=some (g t)
include hg
theorem Cmp.push {st:List Nat} {o:Option Nat} (h:Cmp g st o) {x:Nat} (hx:o ≠ some x):rdS g st x=x::st:=by
 cases st with
 | nil=>rfl
 | cons t r=>
   have e:=h t r rfl
   have:t ≠ g x:=fun z=>hx (by rw [e,z,hg])
   simp [rdS,this]
theorem Gd.full {us:List Nat} {o:Option Nat} {a b:Int} (h:Gd L g us o a b):∀ {st:List Nat},Cmp g st o->bF L g a (b - a).toNat st=st:=by
 induction h with
 | nil us o a=>intro st _; rw [show (a - a).toNat=0 by omega]; rfl
 | @hoop us o a j b h1 h2 hl h3 h4 h5 h6 i1 i2=>
   intro st hc
   rw [eI L g h1 h2,hc.push hg h4,i1 (fun t r e=>by cases e; rw [hl]),i2 (st:=_) ?_]
   · rw [hl]; simp [rdS,hg]
   · rw [hl]
     have:rdS g (L a::st) (g (L a))=st:=by simp [rdS,hg]
     rw [this]
     exact hc
theorem Gd.trace {us:List Nat} {o:Option Nat} {a b:Int} (h:Gd L g us o a b):∀ {st:List Nat} {c:Int},Cmp g st o->a<=c->c < b ->
   (bF L g a (c - a).toNat st=st/\o ≠ some (L c))∨(∃ e,e ∉ us/\bF L g a (c - a).toNat st=e::st)∨st.length+2<=(bF L g a (c - a).toNat st).length:=by
 induction h with
 | nil us o a=>intro st c _ h1 h2; omega
 | @hoop us o a j b h1 h2 hl h3 h4 h5 h6 i1 i2=>
   intro st c hc ha hb
   have ps:=hc.push hg h4
   have ci:Cmp g (L a::st) (some (L j)):=fun t r e=>by cases e; rw [hl]
   rcases Int.lt_trichotomy c j with cj | cj | cj
   · by_cases ca:c=a
     · subst ca
       left
       rw [show (c - c).toNat=0 by omega]
       exact ⟨rfl,h4⟩
     · have e:bF L g a (c - a).toNat st=bF L g (a+1) (c - (a+1)).toNat (L a::st):=by
         rw [show (c - a).toNat=(c - (a+1)).toNat+1 by omega]
         show bF L g (a+1) _ (rdS g st (L a))=_
         rw [ps]
       rw [e]
       rcases i1 ci (by omega) cj with ⟨z,_⟩ | ⟨f,_,z⟩ | z
       · exact .inr (.inl ⟨L a,h3,z⟩)
       · right; right; rw [z]; simp
       · right; right; simp at z; omega
   · subst cj
     have e:bF L g a (c - a).toNat st=bF L g (a+1) (c - (a+1)).toNat (L a::st):=by
       rw [show (c - a).toNat=(c - (a+1)).toNat+1 by omega]
       show bF L g (a+1) _ (rdS g st (L a))=_
       rw [ps]
     rw [e,h5.full L hg ci]
     exact .inr (.inl ⟨L a,h3,rfl⟩)
   · have e:bF L g a (c - a).toNat st=bF L g (j+1) (c - (j+1)).toNat st:=by
       rw [eI L g h1 cj,ps,h5.full L hg ci,hl]
       simp [rdS,hg]
     rw [e]
     rcases i2 hc (by omega) hb with z | ⟨f,f1,z⟩ | z
     · exact .inl z
     · exact .inr (.inl ⟨f,fun y=>f1 (by simp [y]),z⟩)
     · exact .inr (.inr z)
omit hg
theorem D1 {M:Int->Int->Bool}:∀ (n:Nat) {a b:Int},b - a=n->FN M a b ≠ 0->∃ x,Fu M a b x:=by
 intro n
 induction n using Nat.strongRecOn with
 | _ n ih=>
   intro a b hn hz
   by_cases c:a < b
   · rw [fQ M c] at hz
     obtain ⟨j,hj,hne⟩:∃ j ∈ ups (a+1) (b - (a+1)).toNat,(if M a j=true then FN M (a+1) j * FN M (j+1) b else 0) ≠ 0:=by
       apply Classical.byContradiction
       intro hno
       apply hz
       have all:∀ y ∈ (ups (a+1) (b - (a+1)).toNat).map (fun j=>if M a j=true then FN M (a+1) j * FN M (j+1) b else 0),y=0:=by
         intro y hy
         obtain ⟨j,hj,rfl⟩:=Z18.mp hy
         exact Classical.byContradiction fun z=>hno ⟨j,hj,z⟩
       generalize (ups (a+1) (b - (a+1)).toNat).map (fun j=>if M a j=true then FN M (a+1) j * FN M (j+1) b else 0)=l at all
       induction l with
       | nil=>rfl
       | cons y l il=>rw [List.sum_cons,all y (by simp),il fun z hz=>all z (by simp [hz])]; rfl
     have hj':=lF hj
     split at hne
     · rename_i hm
       obtain ⟨x,hx⟩:=ih (j - (a+1)).toNat (by omega) (a:=a+1) (b:=j) (by omega) (fun z=>hne (by rw [z]; simp))
       obtain ⟨y,hy⟩:=ih (b - (j+1)).toNat (by omega) (a:=j+1) (b:=b) (by omega) (fun z=>hne (by rw [z]; simp))
       exact ⟨_,.hoop (by omega) (by omega) hm hx hy⟩
     · exact absurd rfl hne
   · have:a=b:=by omega
     subst this
     exact ⟨[],.nil a⟩
theorem rR (lo:Int) (n:Nat):(ups lo n).Nodup:=by
 unfold ups
 exact List.Pairwise.map _ (fun a b h e=>h (by simp at e; omega)) List.nodup_range
theorem yA {l:List Int} {f:Int->Int} {j:Int} (hj:j ∈ l) (nd:l.Nodup) (h1:f j=1) (h0:∀ i ∈ l,i ≠ j->f i=0):(l.map f).sum=1:=by
 induction l with
 | nil=>cases hj
 | cons x l ih=>
   rw [List.nodup_cons] at nd
   rw [Z6,List.sum_cons]
   by_cases c:x=j
   · subst c
     have:(l.map f).sum=0:=by
       have all:∀ i ∈ l,f i=0:=fun i hi=>h0 i (by simp [hi]) (fun z=>nd.1 (by rw [<- z]; exact hi))
       clear ih nd h0 hj
       induction l with
       | nil=>rfl
       | cons y l il=>rw [Z6,List.sum_cons,all y (by simp),il fun i hi=>all i (by simp [hi])]; rfl
     rw [h1,this]; rfl
   · rw [h0 x (by simp) c]
     have hl:j ∈ l:=by
       rcases Z19.mp hj with z | z
       · exact absurd z.symm c
       · exact z
     rw [ih hl nd.2 fun i hi=>h0 i (by simp [hi])]; rfl
include hg
theorem Gd.only {M:Int->Int->Bool} (hM:∀ i j,M i j=true ↔ L j=g (L i)) {us:List Nat} {o:Option Nat} {a b:Int} (h:Gd L g us o a b):FN M a b=1:=by
 induction h with
 | nil us o a=>exact jb M (Z42 _)
 | @hoop us o a j b h1 h2 hl h3 h4 h5 h6 i1 i2=>
   rw [fQ M (by omega)]
   refine yA (j:=j) (ups_in.mpr (by omega)) (rR _ _) ?_ fun i hi ne=>?_
   · rw [if_pos ((hM a j).mpr hl),i1,i2]; rfl
   · have hi':=lF hi
     split
     · rename_i hm
       have li:=(hM a i).mp hm
       apply Classical.byContradiction
       intro hz
       have hn:FN M (a+1) i ≠ 0:=fun z=>hz (by rw [z]; simp)
       obtain ⟨y,fy⟩:=D1 (i - (a+1)).toNat (a:=a+1) (b:=i) (by omega) hn
       have st:=fy.still L hg (fun i j=>(hM i j).mp) (st:=[L a]) trivial
       rcases Int.lt_trichotomy i j with c | c | c
       · rcases h5.trace L hg (st:=[L a]) (c:=i) (fun t r e=>by cases e; rw [hl]) (by omega) c with ⟨_,z⟩ | ⟨f,_,z⟩ | z
         · exact z (by rw [li,hl])
         · rw [st] at z; simp at z
         · rw [st] at z; simp at z
       · exact ne c
       · have e:bF L g (j+1) (i - (j+1)).toNat []=[L a]:=by
           rw [<- st]
           have e1:=eI L g h1 c []
           rw [show (i - a).toNat=(i - (a+1)).toNat+1 by omega] at e1
           have e2:bF L g a ((i - (a+1)).toNat+1) []=bF L g (a+1) (i - (a+1)).toNat [L a]:=rfl
           rw [e2] at e1
           rw [e1,show rdS g [] (L a)=[L a] from rfl,h5.full L hg (fun t r e=>by cases e; rw [hl]),hl]
           simp [rdS,hg]
         rcases h6.trace L hg (st:=[]) (c:=i) (fun t r e=>by cases e) (by omega) (by omega) with ⟨z,_⟩ | ⟨f,f1,z⟩ | z
         · rw [e] at z; cases z
         · rw [e] at z
           cases z
           exact f1 (by simp)
         · rw [e] at z; simp at z
     · rfl
end
open PySem L2
noncomputable def jg (L:Int->Nat) (sh:List (Int × Int)) (a b:Int) (o:Option Nat):Prop:=(∀ p ∈ inner sh a b,∀ q ∈ inner sh a b,L p.1=L q.1->p=q)/\∀ p ∈ inner sh a b,o ≠ some (L p.1)
theorem D2 {n:Int} {sh:List (Int × Int)} {L:Int->Nat} {g:Nat->Nat} (h:Sh n sh) (hl:∀ p ∈ sh,L p.2=g (L p.1)) (hf:∀ z,0<=z->z < n->∃ p ∈ sh,p.1=z∨p.2=z) (hR:∀ o ∈ sh,jg L sh o.1 o.2 (some (L o.2))) :
   ∀ (N:Nat) (a b c:Int) (o:Option Nat) (us:List Nat),b - c<=N->-1<=a->b<=n->a < c->c<=b->vk sh a b->(∀ p ∈ aG sh a b,p.2 < c∨c<=p.1)->jg L sh a b o->(∀ e ∈ us,∃ q ∈ inner sh a b,q.2 < c/\e=L q.1)->Gd L g us o c b:=by
 intro N
 induction N with
 | zero=>
   intro a b c o us h1 h2 h3 h4 h5 pt hc ro hu
   have:c=b:=by omega
   subst this
   exact .nil _ _ _
 | succ N ih=>
   intro a b c o us h1 h2 h3 h4 h5 pt hc ro hu
   by_cases cb:c=b
   · subst cb; exact .nil _ _ _
   obtain ⟨p,hp,hz⟩:=hf c (by omega) (by omega)
   have hb:=h.1 p hp
   have pp:=pt p hp
   have p1:p.1=c:=by
     rcases hz with z | z
     · exact z
     · have w:p ∈ aG sh a b:=within_mem.mpr ⟨hp,pp.2 (by omega) (by omega),by omega⟩
       have:=hc p w
       omega
   have w:p ∈ aG sh a b:=within_mem.mpr ⟨hp,by omega,pp.1 (by omega) (by omega)⟩
   have wb:=(within_mem.mp w).2
   have pin:p ∈ inner sh a b:=inner_mem.mpr ⟨w,fun q hq z1 z2=>by
     have:=hc q hq
     have:=h.1 q (within_mem.mp hq).1
     omega⟩
   obtain ⟨i,j⟩:=p
   dsimp only at p1 hb wb
   subst p1
   have ho:jg L sh i j (some (L j)):=hR (i,j) hp
   refine .hoop (j:=j) (by omega) (by omega) (hl _ hp) ?_ (ro.2 _ pin) ?_ ?_
   · intro z
     obtain ⟨q,hq,q1,q2⟩:=hu _ z
     have:=ro.1 _ pin q hq q2
     subst this
     dsimp only at q1
     omega
   · refine ih i j (i+1) (some (L j)) [] (by omega) (by omega) (by omega) (by omega) (by omega) (gF h hp) (fun q hq=>?_) ho (by simp)
     have:=(within_mem.mp hq).2
     omega
   · refine ih a b (j+1) o (L i::us) (by omega) h2 h3 (by omega) (by omega) pt (fun q hq=>?_) ro (fun e he=>?_)
     · have hq1:=within_mem.mp hq
       have hb':=h.1 q hq1.1
       rcases hc q hq with z | z
       · left; omega
       · rcases Int.lt_trichotomy q.1 i with y | y | y
         · omega
         · have:=h.one hq1.1 hp y
           subst this
           left
           dsimp only
           omega
         · have:=h.two hp hq1.1 y
           dsimp only at this
           omega
     · rcases Z19.mp he with rfl | he
       · exact ⟨(i,j),pin,by dsimp only; omega,rfl⟩
       · obtain ⟨q,hq,q1,q2⟩:=hu e he
         exact ⟨q,hq,by omega,q2⟩
theorem B3 {n:Int} {sh:List (Int × Int)} {L:Int->Nat} {g:Nat->Nat} (hn:0<=n) (h:Sh n sh) (hl:∀ p ∈ sh,L p.2=g (L p.1)) (hf:∀ z,0<=z->z < n->∃ p ∈ sh,p.1=z∨p.2=z) (hR:∀ o ∈ sh,jg L sh o.1 o.2 (some (L o.2))) (h0:jg L sh (-1) n none):Gd L g [] none 0 n:=
 D2 h hl hf hR n.toNat (-1) n 0 none [] (by omega) (by omega) (by omega) (by omega) hn (je h) (fun q hq=>by have:=(within_mem.mp hq).2; omega) h0 (by simp)
open PySem L2
theorem Fu.two {M:Int->Int->Bool} {a b:Int} {x y:List (Int × Int)} (h:Fu M a b x) (k:Fu M a b y) (ne:x ≠ y):2<=FN M a b:=by
 obtain ⟨r,m1,e1⟩:=h.mem
 obtain ⟨s,m2,e2⟩:=k.mem
 have nr:r ≠ s:=fun z=>ne (by rw [<- e1,<- e2,z])
 unfold FN
 generalize FP M a b=l at m1 m2
 match l,m1,m2 with
 | [],m1,_=>cases m1
 | [z],m1,m2=>exact absurd ((Z12.mp m1).trans (Z12.mp m2).symm) nr
 | z::w::l,_,_=>simp; omega
open PySem L2
theorem Fu.pw {M:Int->Int->Bool} {a n:Int} {x:List (Int × Int)} (h:Fu M a n x):x.Pairwise fun p q=>p.1 < q.1/\(p.2 < q.1∨q.2 < p.2):=by
 induction h with
 | nil=>exact .nil
 | @hoop a j b p q h1 h2 hm h3 h4 i1 i2=>
   have n1:=h3.rng
   have n2:=h4.rng
   refine .cons (fun x hx=>?_) (Z48.mpr ⟨i1,i2,fun x hx y hy=>?_⟩)
   · rcases Z11.mp hx with hx | hx
     · have:=n1 x hx; dsimp only; omega
     · have:=n2 x hx; dsimp only; omega
   · have z1:=n1 x hx; have z2:=n2 y hy; omega
theorem Fu.sh {M:Int->Int->Bool} {n:Int} {x:List (Int × Int)} (h:Fu M 0 n x):Sh n x:=⟨fun p hp=>h.rng p hp,h.pw⟩
theorem Sh.rel {n:Int} {sh:List (Int × Int)} (h:Sh n sh) {p q:Int × Int} (hp:p ∈ sh) (hq:q ∈ sh):(p.1=q.1/\p.2=q.2)∨p.2 < q.1∨q.2 < p.1∨(p.1 < q.1/\q.2 < p.2)∨(q.1 < p.1/\p.2 < q.2):=by
 rcases Int.lt_trichotomy p.1 q.1 with c | c | c
 · have:=h.two hp hq c; omega
 · have:=h.one hp hq c; subst this; exact .inl ⟨rfl,rfl⟩
 · have:=h.two hq hp c; omega
theorem D3 {n:Int} {y:List (Int × Int)} {M:Int->Int->Bool} (h:Sh n y) (hm:∀ p ∈ y,M p.1 p.2=true) (hf:∀ z,0<=z->z < n->∃ p ∈ y,p.1=z∨p.2=z) :
   ∀ (N:Nat) (c b:Int),b - c=N->0<=c->b<=n->(∀ p ∈ y,(c<=p.1->p.1 < b->p.2 < b)/\(c<=p.2->p.2 < b->c<=p.1))->∃ y',Fu M c b y'/\∀ q,q ∈ y' ↔ q ∈ y/\c<=q.1/\q.2 < b:=by
 intro N
 induction N using Nat.strongRecOn with
 | _ N ih=>
   intro c b hN h0 hb seg
   by_cases cb:c=b
   · subst cb
     refine ⟨[],.nil _,fun q=>⟨fun z=>(by cases z),fun ⟨q1,q2,q3⟩=>?_⟩⟩
     have:=h.1 q q1
     omega
   · obtain ⟨p,hp,hz⟩:=hf c h0 (by omega)
     have pb:=h.1 p hp
     have sp:=seg p hp
     have p1:p.1=c:=by
       rcases hz with z | z
       · exact z
       · have:=sp.2 (by omega) (by omega); omega
     have p2:=sp.1 (by omega) (by omega)
     obtain ⟨i,j⟩:=p
     dsimp only at pb p1 p2
     subst p1
     have rl:∀ q ∈ y,(q.1=i/\q.2=j)∨q.2 < i∨j < q.1∨(q.1 < i/\j < q.2)∨(i < q.1/\q.2 < j):=fun q hq=>h.rel hq hp
     obtain ⟨y1,f1,m1⟩:=ih (j - (i+1)).toNat (by omega) (i+1) j (by omega) (by omega) (by omega) (fun q hq=>by
       have:=rl q hq; have:=h.1 q hq
       constructor <;> intros <;> omega)
     obtain ⟨y2,f2,m2⟩:=ih (b - (j+1)).toNat (by omega) (j+1) b (by omega) (by omega) (by omega) (fun q hq=>by
       have:=rl q hq; have:=h.1 q hq; have:=seg q hq
       constructor <;> intros <;> omega)
     refine ⟨_,.hoop (by omega) p2 (hm _ hp) f1 f2,fun q=>?_⟩
     rw [Z19,Z11,m1,m2]
     constructor
     · rintro (rfl | ⟨q1,q2,q3⟩ | ⟨q1,q2,q3⟩)
       · exact ⟨hp,by dsimp only; omega,p2⟩
       · exact ⟨q1,by omega,by omega⟩
       · exact ⟨q1,by omega,q3⟩
     · rintro ⟨q1,q2,q3⟩
       have r:=rl q q1
       have:=h.1 q q1
       by_cases e:q.1=i
       · left
         exact h.one q1 hp e
       · right
         by_cases e2:q.2 < j
         · exact .inl ⟨q1,by omega,e2⟩
         · exact .inr ⟨q1,by omega,q3⟩
theorem yB {x y:List (Int × Int)} (hx:x.Pairwise fun p q=>p.1 < q.1) (hy:y.Pairwise fun p q=>p.1 < q.1) (hm:∀ q,q ∈ x ↔ q ∈ y):x=y:=by
 have nx:x.Nodup:=hx.imp fun {a b} z e=>by rw [e] at z; omega
 have ny:y.Nodup:=hy.imp fun {a b} z e=>by rw [e] at z; omega
 have pm:x.Perm y:=(List.perm_ext_iff_of_nodup nx ny).mpr hm
 exact List.Perm.eq_of_pairwise (le:=fun a b=>a.1 < b.1) (fun a b _ _ x y=>by omega) hx hy pm
theorem B4 {n:Int} {y:List (Int × Int)} {M:Int->Int->Bool} (hn:0<=n) (h:Sh n y) (hm:∀ p ∈ y,M p.1 p.2=true) (hf:∀ z,0<=z->z < n->∃ p ∈ y,p.1=z∨p.2=z):Fu M 0 n y:=by
 obtain ⟨y',f,m⟩:=D3 h hm hf n.toNat 0 n (by omega) (by omega) (by omega) (fun p hp=>by have:=h.1 p hp; constructor <;> intros <;> omega)
 obtain ⟨k,rk⟩:=f.rk
 have:y'=y:=yB rk.rise (h.2.imp fun z=>z.1) fun q=>(m q).trans ⟨fun z=>z.1,fun z=>⟨z,by have:=h.1 q z; omega,by have:=h.1 q z; omega⟩⟩
 rw [<- this]
 exact f
noncomputable def ys (n:Int) (r:Int->Int):List (Int × Int):=((ups 0 n.toNat).filter fun i=>decide (i < r i)).map fun i=>(i,r i)
theorem B5 {n:Int} {r:Int->Int} {q:Int × Int}:q ∈ ys n r ↔ 0<=q.1/\q.1 < n/\q.1 < q.2/\q.2=r q.1:=by
 unfold ys
 rw [Z18]
 constructor
 · rintro ⟨i,hi,rfl⟩
   rw [List.mem_filter] at hi
   have h1:=ups_in.mp hi.1
   have h2:=of_decide_eq_true hi.2
   exact ⟨h1.1,by dsimp only; omega,h2,rfl⟩
 · rintro ⟨h1,h2,h3,h4⟩
   refine ⟨q.1,List.mem_filter.mpr ⟨ups_in.mpr (by omega),decide_eq_true (by omega)⟩,?_⟩
   rw [<- h4]
theorem vt (lo:Int) (n:Nat):(ups lo n).Pairwise (· < ·):=by
 unfold ups
 exact List.Pairwise.map _ (fun a b h=>by simp; omega) List.pairwise_lt_range
theorem yC (n:Int) (r:Int->Int):(ys n r).Pairwise fun p q=>p.1 < q.1:=by
 unfold ys
 exact List.Pairwise.map _ (fun a b h=>h) ((vt _ _).filter _)
structure Xch (n:Int) (sh:List (Int × Int)) (A B C D:Int × Int) (r:Int->Int):Prop where
 s:Sh n sh
 f:∀ z,0<=z->z < n->∃ p ∈ sh,p.1=z∨p.2=z
 ma:A ∈ sh
 mb:B ∈ sh
 rf:∀ p ∈ sh,p ≠ A->p ≠ B->r p.1=p.2/\r p.2=p.1
 c1:r C.1=C.2
 c2:r C.2=C.1
 d1:r D.1=D.2
 d2:r D.2=D.1
theorem eJ {p q:Int × Int} (h:p ≠ q):¬ (p.1=q.1/\p.2=q.2):=fun z=>h (Prod.ext z.1 z.2)
theorem Xch.mem {n:Int} {sh:List (Int × Int)} {A B C D:Int × Int} {r:Int->Int} (X:Xch n sh A B C D r) (g:(A.2 < B.1/\C=(A.1,B.2)/\D=(A.2,B.1))∨(A.1 < B.1/\B.2 < A.2/\C=(A.1,B.1)/\D=(B.2,A.2))) (q:Int × Int) :
   q ∈ ys n r ↔ (q ∈ sh/\q ≠ A/\q ≠ B)∨q=C∨q=D:=by
 have a0:=X.s.1 A X.ma
 have b0:=X.s.1 B X.mb
 have cd:C.1 < C.2/\D.1 < D.2/\0<=C.1/\C.1 < n/\0<=D.1/\D.1 < n:=by
   rcases g with ⟨g,rfl,rfl⟩ | ⟨g1,g2,rfl,rfl⟩ <;> dsimp only <;> omega
 have sp:∀ z,z=A.1∨z=A.2∨z=B.1∨z=B.2->z=C.1∨z=C.2∨z=D.1∨z=D.2:=by
   rcases g with ⟨g,rfl,rfl⟩ | ⟨g1,g2,rfl,rfl⟩ <;> dsimp only <;> intro z hz <;> omega
 rw [B5]
 constructor
 · rintro ⟨h1,h2,h3,h4⟩
   obtain ⟨p,hp,hz⟩:=X.f q.1 h1 h2
   by_cases e:q.1=A.1∨q.1=A.2∨q.1=B.1∨q.1=B.2
   · right
     rcases sp _ e with z | z | z | z
     · left; refine Prod.ext z ?_; rw [h4,z,X.c1]
     · rw [z,X.c2] at h4; omega
     · right; refine Prod.ext z ?_; rw [h4,z,X.d1]
     · rw [z,X.d2] at h4; omega
   · have pa:p ≠ A:=fun z=>e (by subst z; omega)
     have pb:p ≠ B:=fun z=>e (by subst z; omega)
     have rf:=X.rf p hp pa pb
     have p0:=X.s.1 p hp
     rcases hz with z | z
     · have:q=p:=Prod.ext z.symm (by rw [h4,<- z,rf.1])
       subst this
       exact .inl ⟨hp,pa,pb⟩
     · rw [<- z,rf.2] at h4; omega
 · rintro (⟨h1,h2,h3⟩ | rfl | rfl)
   · have p0:=X.s.1 q h1
     exact ⟨p0.1,by omega,p0.2.1,(X.rf q h1 h2 h3).1.symm⟩
   · exact ⟨cd.2.2.1,cd.2.2.2.1,cd.1,X.c1.symm⟩
   · exact ⟨cd.2.2.2.2.1,cd.2.2.2.2.2,cd.2.1,X.d1.symm⟩
theorem Xch.full {n:Int} {sh:List (Int × Int)} {A B C D:Int × Int} {r:Int->Int} (X:Xch n sh A B C D r) (g:(A.2 < B.1/\C=(A.1,B.2)/\D=(A.2,B.1))∨(A.1 < B.1/\B.2 < A.2/\C=(A.1,B.1)/\D=(B.2,A.2)))
   (ring:∀ q ∈ sh,(A.2 < B.1->((q.1 < A.1/\A.2 < q.2) ↔ (q.1 < B.1/\B.2 < q.2)))/\(B.2 < A.2->¬ (A.1 < q.1/\q.1 < B.1/\B.2 < q.2/\q.2 < A.2))) :
   Sh n (ys n r)/\(∀ z,0<=z->z < n->∃ p ∈ ys n r,p.1=z∨p.2=z)/\ys n r ≠ sh:=by
 have a0:=X.s.1 A X.ma
 have b0:=X.s.1 B X.mb
 have mm:=X.mem g
 have rl:∀ q ∈ sh,q ≠ A->q ≠ B->(q.2 < A.1∨A.2 < q.1∨(q.1 < A.1/\A.2 < q.2)∨(A.1 < q.1/\q.2 < A.2))/\(q.2 < B.1∨B.2 < q.1∨(q.1 < B.1/\B.2 < q.2)∨(B.1 < q.1/\q.2 < B.2)):=fun q hq na nb=>by
   have h1:=X.s.rel hq X.ma
   have h2:=X.s.rel hq X.mb
   have n1:=eJ na
   have n2:=eJ nb
   omega
 refine ⟨⟨fun p hp=>?_,(yC n r).imp_of_mem fun {p q} hp hq lt=>⟨lt,?_⟩⟩,fun z z0 z1=>?_,fun e=>?_⟩
 · rcases (mm p).mp hp with ⟨h1,_,_⟩ | rfl | rfl
   · exact X.s.1 p h1
   · rcases g with ⟨g,rfl,rfl⟩ | ⟨g1,g2,rfl,rfl⟩ <;> dsimp only <;> omega
   · rcases g with ⟨g,rfl,rfl⟩ | ⟨g1,g2,rfl,rfl⟩ <;> dsimp only <;> omega
 · rcases (mm p).mp hp with ⟨h1,h2,h3⟩ | e1 | e1 <;> rcases (mm q).mp hq with ⟨k1,k2,k3⟩ | e2 | e2
   · exact X.s.two h1 k1 lt
   · have r1:=rl p h1 h2 h3
     have r2:=ring p h1
     have p0:=X.s.1 p h1
     rcases g with ⟨g,rfl,rfl⟩ | ⟨g1,g2,rfl,rfl⟩ <;> subst e2 <;> dsimp only at lt ⊢ <;> omega
   · have r1:=rl p h1 h2 h3
     have r2:=ring p h1
     have p0:=X.s.1 p h1
     rcases g with ⟨g,rfl,rfl⟩ | ⟨g1,g2,rfl,rfl⟩ <;> subst e2 <;> dsimp only at lt ⊢ <;> omega
   · have r1:=rl q k1 k2 k3
     have r2:=ring q k1
     have p0:=X.s.1 q k1
     rcases g with ⟨g,rfl,rfl⟩ | ⟨g1,g2,rfl,rfl⟩ <;> subst e1 <;> dsimp only at lt ⊢ <;> omega
   · subst e1 e2; omega
   · rcases g with ⟨g,rfl,rfl⟩ | ⟨g1,g2,rfl,rfl⟩ <;> subst e1 e2 <;> dsimp only at lt ⊢ <;> omega
   · have r1:=rl q k1 k2 k3
     have r2:=ring q k1
     have p0:=X.s.1 q k1
     rcases g with ⟨g,rfl,rfl⟩ | ⟨g1,g2,rfl,rfl⟩ <;> subst e1 <;> dsimp only at lt ⊢ <;> omega
   · rcases g with ⟨g,rfl,rfl⟩ | ⟨g1,g2,rfl,rfl⟩ <;> subst e1 e2 <;> dsimp only at lt ⊢ <;> omega
   · subst e1 e2; omega
 · obtain ⟨p,hp,hz⟩:=X.f z z0 z1
   by_cases pa:p=A
   · subst pa
     have mc:=(mm C).mpr (.inr (.inl rfl))
     have md:=(mm D).mpr (.inr (.inr rfl))
     rcases g with ⟨g,rfl,rfl⟩ | ⟨g1,g2,rfl,rfl⟩ <;> rcases hz with rfl | rfl
     · exact ⟨_,mc,.inl rfl⟩
     · exact ⟨_,md,.inl rfl⟩
     · exact ⟨_,mc,.inl rfl⟩
     · exact ⟨_,md,.inr rfl⟩
   · by_cases pb:p=B
     · subst pb
       have mc:=(mm C).mpr (.inr (.inl rfl))
       have md:=(mm D).mpr (.inr (.inr rfl))
       rcases g with ⟨g,rfl,rfl⟩ | ⟨g1,g2,rfl,rfl⟩ <;> rcases hz with rfl | rfl
       · exact ⟨_,md,.inr rfl⟩
       · exact ⟨_,mc,.inr rfl⟩
       · exact ⟨_,mc,.inr rfl⟩
       · exact ⟨_,md,.inl rfl⟩
     · exact ⟨p,(mm p).mpr (.inl ⟨hp,pa,pb⟩),hz⟩
 · have mc:=(mm C).mpr (.inr (.inl rfl))
   rw [e] at mc
   have ca:=X.s.one mc X.ma
   rcases g with ⟨g,rfl,rfl⟩ | ⟨g1,g2,rfl,rfl⟩
   · have:=congrArg Prod.snd (ca rfl); dsimp only at this; omega
   · have:=congrArg Prod.snd (ca rfl); dsimp only at this; omega
open PySem L2
theorem Ev.enuL {md:List Md} {f:MA} {os:List Op} {l:List D} {ρ ρ1:En} (h1:f ρ=some (os,ρ1)) (h2:stos md ρ1 os=some [.lst l]):jZ md f ρ=some (Mir.iW l,ρ1):=by
 unfold jZ
 rw [h1,Z1,h2,Z1]
local macro_rules | `(tactic| walk_at "evI")=>`(tactic| with_reducible apply Ev.enuL)
local macro_rules | `(tactic| walk_at "evE")=>`(tactic| with_reducible apply Ev.slZ)
local macro_rules | `(tactic| walk_at "opl")=>`(tactic| first | with_reducible assumption | with_reducible exact Mir.ix0 | with_reducible exact Mir.ix1 | with_reducible exact Mir.nY1 _ | with_reducible exact Mir.nY0)
theorem ES {l:List (Int × Int)} {k:Int} (h0:0<=k) (h1:k<=l.length):slZ (.lst (l.map ac)) none (some k)=some (.lst ((l.take k.toNat).map ac)):=by
 have s1:HT.sIx (l.map ac).length 0 none=0:=rfl
 have s2:HT.sIx (l.map ac).length (l.map ac).length (some k)=k.toNat:=by
   show (if k < 0 then _ else min k.toNat _)=_
   rw [if_neg (by omega),Z2]; omega
 show some (D.lst (lg (l.map ac) none (some k)))=_
 unfold lg
 rw [s1,s2,List.drop_zero,List.map_take]
 rfl
theorem rS (l:List (Int × Int)):iW (l.map ac)=(List.range l.length).map fun k=>D.tup [.int (k:Nat),ac (l.getD k (0,0))]:=by
 unfold iW
 apply List.ext_getElem
 · simp
 · intro i h1 h2
   simp at h1
   simp [Z5,h1]
theorem gG {α:Type} {c:α->Option S} {s:S}:∀ {l:List α},Ev.cw c l=some s->∃ a ∈ l,c a=some s
 | [],h=>by cases h
 | a::l,h=>by
   cases e:c a with
   | some t=>
     have:t=s:=by simpa [Ev.cw,e] using h
     exact ⟨a,by simp,by rw [e,this]⟩
   | none=>
     obtain ⟨b,hb,h2⟩:=gG (l:=l) (by simpa [Ev.cw,e] using h)
     exact ⟨b,by simp [hb],h2⟩
theorem lU {α:Type} {c:α->Option S}:∀ {l:List α},Ev.cw c l=none->∀ a ∈ l,c a=none
 | a::l,h,b,hb=>by
   cases e:c a with
   | some t=>simp [Ev.cw,e] at h
   | none=>
     rcases Z19.mp hb with rfl | hb
     · exact e
     · exact lU (l:=l) (by simpa [Ev.cw,e] using h) b hb
noncomputable def alC (ls:List Nat) (one other:Int × Int):Option S:=if lt9 ls one.1=lt9 ls other.1 then some (.d (.tup [ac one,ac other])) else none
theorem D4 {ls:List Nat} (hl:ls.length<=40) {W V:List (Int × Int)} {k:Int} {one:Int × Int} (h1:0<=one.1/\one.1 < ls.length) (hW:∀ w ∈ V,0<=w.1/\w.1 < ls.length) :
   let ρ:En:=[some (.d (.str (tx9 ls))),some (.d (.lst (W.map ac))),some (.d (.int k)),some (.d (ac one)),none]
   (∀ s,Ev.cw (alC ls one) V=some s->∃ ρ2,bg (ah 4) cQ (V.map ac) ρ=some (.ret s,ρ2))/\(Ev.cw (alC ls one) V=none->bg (ah 4) cQ (V.map ac) ρ=some (.nx,ρ)):=by
 dsimp only
 refine Ev.i7 fun w hw=>⟨_,rfl,?_⟩
 have h2:=hW w hw
 have c1:=ix9 (ls:=ls) (by omega) h1
 have c2:=ix9 (ls:=ls) (by omega) h2
 unfold alC
 by_cases e:lt9 ls one.1=lt9 ls w.1
 · rw [if_pos e]
   have es:eqD 4 false (.str (sgn (97+lt9 ls one.1))) (.str (sgn (97+lt9 ls w.1)))=some (.bl true):=by rw [x9,e]; simp
   generalize W.map ac=WM at *
   show ∃ ρ2,_
   apply Exists.intro
   unfold cQ
   walk_at "ev"
 · rw [if_neg e]
   have es:eqD 4 false (.str (sgn (97+lt9 ls one.1))) (.str (sgn (97+lt9 ls w.1)))=some (.bl false):=by
     rw [x9,decide_eq_false]
     intro z
     have:=sgn_inj.mp z
     omega
   generalize W.map ac=WM at *
   show cQ _=_
   unfold cQ
   walk_at "ev"
theorem vv {ls:List Nat} (hl:ls.length<=40) {W:List (Int × Int)} (hw:W.length<=100) (hW:∀ w ∈ W,0<=w.1/\w.1 < ls.length) :
   ((W.Pairwise fun p q=>lt9 ls p.1 ≠ lt9 ls q.1)/\rJ [.d (.str (tx9 ls)),.d (.lst (W.map ac))]=some (.d .non)) ∨
   ∃ (i j:Nat) (one other:Int × Int),i < j/\W[i]?=some other/\W[j]?=some one/\lt9 ls one.1=lt9 ls other.1/\rJ [.d (.str (tx9 ls)),.d (.lst (W.map ac))]=some (.d (.tup [ac one,ac other])):=by
 have lk:=Ev.i7 (g:=bJ 2 (aD (ah 2) (aD (ah 3) bU))) (f:=eE) (e:=fun k:Nat=>D.tup [.int (k:Nat),ac (W.getD k (0,0))]) (ρ:=[some (.d (.str (tx9 ls))),some (.d (.lst (W.map ac))),none,none,none]) (c:=fun k=>Ev.cw (alC ls (W.getD k (0,0))) (W.take k)) (l:=List.range W.length) (fun k hk=>by
   have hk:=List.mem_range.mp hk
   refine ⟨_,rfl,?_⟩
   have hm:W.getD k (0,0) ∈ W:=by
     rw [Z5,Z3 hk]
     exact List.getElem_mem _
   have ai:=D4 hl (W:=W) (V:=W.take k) (k:=k) (hW _ hm) (fun w hw=>hW w (List.mem_of_mem_take hw))
   have cu:=ES (l:=W) (k:=(k:Int)) (by omega) (by omega)
   rw [show ((k:Int)).toNat=k by omega] at cu
   dsimp only at ai
   generalize W.getD k (0,0)=one at ai hm
   cases e:Ev.cw (alC ls one) (W.take k) with
   | some s=>
     obtain ⟨ρ2,lo⟩:=ai.1 s e
     show ∃ ρ2,_
     apply Exists.intro
     unfold eE
     walk_at "ev"
   | none=>
     have lo:=ai.2 e
     show eE _=_
     unfold eE
     walk_at "ev")
 have en:=rS W
 cases e:Ev.cw (fun k=>Ev.cw (alC ls (W.getD k (0,0))) (W.take k)) (List.range W.length) with
 | none=>
   left
   have no:=lU e
   have lo:=lk.2 e
   rw [<- en] at lo
   refine ⟨?_,?_⟩
   · rw [List.pairwise_iff_getElem]
     intro i j hi hj hij z
     have h1:=lU (no j (List.mem_range.mpr hj)) W[i] (by
       rw [List.mem_take_iff_getElem]
       exact ⟨i,by omega,rfl⟩)
     unfold alC at h1
     rw [Z5,Z3 hj,Option.getD_some,if_pos z.symm] at h1
     cases h1
   · generalize W.map ac=WM at *
     apply Ev.fn (ρ:=[some (.d (.str (tx9 ls))),some (.d (.lst WM)),none,none,none]) rfl
     unfold m6
     walk_at "ev"
 | some s=>
   right
   obtain ⟨j,hj,h1⟩:=gG e
   have hj:=List.mem_range.mp hj
   obtain ⟨other,h2,h3⟩:=gG h1
   obtain ⟨i,hi,rfl⟩:=List.mem_take_iff_getElem.mp h2
   unfold alC at h3
   split at h3
   · rename_i z
     cases h3
     rw [Z5,Z3 hj,Option.getD_some] at z e
     obtain ⟨ρ2,lo⟩:=lk.1 _ e
     rw [<- en] at lo
     refine ⟨i,j,W[j],W[i],by omega,by simp,by simp,z,?_⟩
     generalize W.map ac=WM at *
     apply Ev.fn (ρ:=[some (.d (.str (tx9 ls))),some (.d (.lst WM)),none,none,none]) rfl
     unfold m6
     walk_at "ev"
   · cases h3
open PySem L2
noncomputable def aZ (pre:List (Int × Int)) (x:Int × Int):List (Int × Int):=pre.filter fun q=>decide (x.1<=q.2)
theorem Sh.mem_add {n:Int} {pre:List (Int × Int)} {x:Int × Int} (h:Sh n (pre++[x])) {q:Int × Int} (hq:q ∈ pre):q.1 < x.1/\(q.2 < x.1∨x.2 < q.2):=
 (Z48.mp h.2).2.2 q hq x (by simp)
theorem Sh.last {n:Int} {pre:List (Int × Int)} {x:Int × Int} (h:Sh n (pre++[x])):0<=x.1/\x.1 < x.2/\x.2 < n:=h.1 x (by simp)
theorem Sh.pre {n:Int} {pre post:List (Int × Int)} (h:Sh n (pre++post)):Sh n pre:=⟨fun p hp=>h.1 p (by simp [hp]),(Z48.mp h.2).1⟩
theorem aX {n:Int} {pre:List (Int × Int)} {x:Int × Int} (h:Sh n (pre++[x])) {q:Int × Int}:q ∈ aZ pre x ↔ q ∈ pre/\x.2 < q.2:=by
 unfold aZ
 rw [List.mem_filter]
 refine and_congr_right fun hq=>?_
 have h1:=h.mem_add hq
 have h2:=h.last
 rw [decide_eq_true_iff]
 omega
theorem gH {n:Int} {pre:List (Int × Int)} {x:Int × Int} (h:Sh n (pre++[x])) (a b:Int) :
   inner (pre++[x]) a b=inner pre a b++(if a < x.1/\x.2 < b/\∀ q ∈ aZ pre x,¬ (a < q.1/\q.2 < b) then [x] else []):=by
 unfold inner
 have w1:aG (pre++[x]) a b=aG pre a b++(if a < x.1/\x.2 < b then [x] else []):=by
   unfold aG
   rw [List.filter_append]
   congr 1
   by_cases c:a < x.1/\x.2 < b
   · rw [if_pos c]; simp [c.1,c.2]
   · rw [if_neg c]
     rw [List.filter_cons_of_neg (by simpa using c)]
     rfl
 rw [w1,List.filter_append]
 have sub:∀ p ∈ aG pre a b,p ∈ pre:=fun p hp=>(within_mem.mp hp).1
 congr 1
 · refine List.filter_congr fun p hp=>?_
   have:bx (aG pre a b++(if a < x.1/\x.2 < b then [x] else [])) p=bx (aG pre a b) p:=by
     unfold bx
     rw [List.filter_append]
     have h1:=h.mem_add (sub p hp)
     have:(List.filter (fun q=>decide (q.1 < p.1) && decide (p.2 < q.2)) (if a < x.1/\x.2 < b then [x] else []))=[]:=by
       rw [List.filter_eq_nil_iff]
       intro q hq
       split at hq
       · rw [Z12] at hq
         subst hq
         simp
         omega
       · cases hq
     rw [this,Z35]
   rw [this]
 · by_cases c:a < x.1/\x.2 < b
   · rw [if_pos c]
     have e:bx (aG pre a b++[x]) x=bx (aG pre a b) x:=by
       unfold bx
       rw [List.filter_append,List.filter_cons_of_neg (by simp)]
       simp
     by_cases d:∀ q ∈ aZ pre x,¬ (a < q.1/\q.2 < b)
     · rw [if_pos ⟨c.1,c.2,d⟩,List.filter_cons_of_pos]
       · rfl
       · rw [e,List.isEmpty_iff]
         refine List.eq_nil_iff_forall_not_mem.mpr fun q hq=>?_
         simp [bx] at hq
         have hw:=within_mem.mp hq.1
         exact d q ((aX h).mpr ⟨hw.1,hq.2.2⟩) hw.2
     · rw [if_neg (fun z=>d z.2.2),List.filter_cons_of_neg]
       · rfl
       · rw [e]
         intro z
         rw [List.isEmpty_iff] at z
         refine d fun q hq hc=>?_
         have hm:=(aX h).mp hq
         have:q ∈ bx (aG pre a b) x:=by
           have h1:=h.mem_add hm.1
           simp [bx,within_mem,hm.1,hm.2,hc.1,hc.2,h1.1]
         rw [z] at this; cases this
   · rw [if_neg c,if_neg (fun z=>c ⟨z.1,z.2.1⟩)]
     rfl
theorem kx {n:Int} {pre:List (Int × Int)} {x:Int × Int} (h:Sh n (pre++[x])):(aZ pre x).Pairwise fun p q=>p.1 < q.1/\q.2 < p.2:=by
 have hs:(aZ pre x).Pairwise fun p q=>p.1 < q.1/\(p.2 < q.1∨q.2 < p.2):=(h.pre.2).filter _
 refine hs.imp_of_mem fun {p q} hp hq z=>?_
 have h1:=(aX h).mp hp
 have h2:=(aX h).mp hq
 have h3:=h.mem_add h2.1
 have h4:=h.last
 omega
theorem qj {n:Int} {pre:List (Int × Int)} {x:Int × Int} (h:Sh n (pre++[x])) {es:List (Int × Int)} {m:Int × Int} (he:aZ pre x=es++[m]) {o:Int × Int} (ho:o ∈ pre) :
   (o.1 < x.1/\x.2 < o.2/\∀ q ∈ aZ pre x,¬ (o.1 < q.1/\q.2 < o.2)) ↔ o=m:=by
 have nest:=kx h
 rw [he] at nest
 have nm:=(Z48.mp nest).2.2
 have mm:m ∈ aZ pre x:=by rw [he]; simp
 have m1:=(aX h).mp mm
 constructor
 · rintro ⟨h1,h2,h3⟩
   have oe:o ∈ aZ pre x:=(aX h).mpr ⟨ho,h2⟩
   rw [he] at oe
   rcases Z11.mp oe with oe | oe
   · have:=nm o oe m (by simp)
     exact absurd this (h3 m mm)
   · exact Z12.mp oe
 · rintro rfl
   have h1:=h.mem_add m1.1
   refine ⟨h1.1,m1.2,fun q hq hc=>?_⟩
   rw [he] at hq
   rcases Z11.mp hq with hq | hq
   · have:=nm q hq o (by simp); omega
   · rw [Z12] at hq; subst hq; omega
theorem rT {n:Int} {pre:List (Int × Int)} {x:Int × Int} (h:Sh n (pre++[x])):inner (pre++[x]) x.1 x.2=[]:=by
 refine List.eq_nil_iff_forall_not_mem.mpr fun q hq=>?_
 have:=within_mem.mp (inner_mem.mp hq).1
 rcases Z11.mp this.1 with z | z
 · have:=h.mem_add z; omega
 · rw [Z12] at z; subst z; omega
@[reducible] noncomputable def kyO (o:Int × Int):NK:=some [o.1,o.2]
@[reducible] noncomputable def prs (l:List (Int × Int)):List D:=l.map ac
noncomputable def aF (n:Int) (pre:List (Int × Int)):List (NK × List D):=(none,prs (inner pre (-1) n))::pre.map fun o=>(kyO o,prs (inner pre o.1 o.2))
theorem fR {o p:Int × Int} (h:kyO o=kyO p):o=p:=by
 simp [kyO] at h
 exact Prod.ext h.1 h.2
theorem fm (n:Int) (pre:List (Int × Int)):(aF n pre).map (·.1)=none::pre.map kyO:=by
 unfold aF
 rw [Z6,Z31]
 rfl
theorem rV {n:Int} {pre:List (Int × Int)} {x:Int × Int} (h:Sh n (pre++[x])) {k:NK} (hk:(aZ pre x=[]/\k=none)∨∃ es m,aZ pre x=es++[m]/\k=kyO m) :
   lC (gD (aF n pre) (kyO x)) k (ac x)=aF n (pre++[x]):=by
 have hl:=h.last
 have top:inner (pre++[x]) (-1) n=inner pre (-1) n++(if aZ pre x=[] then [x] else []):=by
   rw [gH h]
   congr 1
   by_cases c:aZ pre x=[]
   · rw [if_pos c,if_pos ⟨by omega,hl.2.2,by rw [c]; simp⟩]
   · rw [if_neg c,if_neg]
     rintro ⟨_,_,z⟩
     obtain ⟨q,hq⟩:=List.exists_mem_of_ne_nil _ c
     have hm:=((aX h).mp hq).1
     have:=h.1 q (by simp [hm])
     exact z q hq ⟨by omega,this.2.2⟩
 unfold aF gD lC
 rw [Z23,Z23,Z6,Z31,top,Z51,show List.map (fun o=>(kyO o,prs (inner (pre++[x]) o.fst o.snd))) [x]=[(kyO x,[])] by rw [Z6,rT h]; rfl]
 rcases hk with ⟨he,rfl⟩ | ⟨es,m,he,rfl⟩
 · rw [if_pos he]
   congr 1
   · simp
   · congr 1
     · refine List.map_congr_left fun o ho=>?_
       show (if kyO o=none then ((kyO o,prs (inner pre o.1 o.2)++[ac x]):NK × List D) else (kyO o,prs (inner pre o.1 o.2)))=_
       rw [if_neg (by simp [kyO]),gH h,if_neg]
       · simp
       · rintro ⟨z1,z2,_⟩
         have:o ∈ aZ pre x:=(aX h).mpr ⟨ho,z2⟩
         rw [he] at this; cases this
 · have ne:aZ pre x ≠ []:=by rw [he]; simp
   have mx:m ∈ pre:=((aX h).mp (by rw [he]; simp)).1
   rw [if_neg ne]
   congr 1
   · simp [kyO]
   · congr 1
     · refine List.map_congr_left fun o ho=>?_
       show (if kyO o=kyO m then ((kyO o,prs (inner pre o.1 o.2)++[ac x]):NK × List D) else (kyO o,prs (inner pre o.1 o.2)))=_
       rw [gH h]
       by_cases c:o=m
       · rw [if_pos (by rw [c]),if_pos ((qj h he ho).mpr c)]
         simp
       · rw [if_neg (fun z=>c (fR z)),if_neg (fun z=>c ((qj h he ho).mp z))]
         simp
     · show [if kyO x=kyO m then ((kyO x,[]++[ac x]):NK × List D) else (kyO x,[])]=_
       rw [if_neg]
       intro z
       have:=fR z
       subst this
       have:=h.mem_add mx
       omega
open PySem L2
local macro_rules | `(tactic| walk_at "opl")=>`(tactic| first | with_reducible assumption | with_reducible exact Mir.ix0 | with_reducible exact Mir.ix1)
theorem D5 (l:List (Int × Int)):D.depthL (l.map ac)<=3:=bm (fun _=>Z14 rfl) l
theorem vw (l:List (Int × Int)) (q:Int × Int):ixD (.lst ((l++[q]).map ac)) (.int (-1))=some (ac q):=by
 show atI ((l++[q]).map ac) (-1)=some (ac q)
 unfold atI ixN
 simp
 rw [if_pos (by omega),Z1,show (-1+((l.length:Int)+1)).toNat=l.length by omega]
 simp
noncomputable abbrev bz (sm:D) (st:List (Int × Int)) (h:Option S):En:=[some (.d sm),none,some (.d (.lst (st.map ac))),h]
noncomputable abbrev vx:MT:=om (mB (mOp (eqD 4 true) (ae 2) (eU am al))) (mB (mOp ltD (mOp ixD (mOp ixD (ae 2) (mUn eV (mC (.int 1)))) (mC (.int 1))) (mOp ixD (ae 3) (mC (.int 0)))))
theorem yD (sm:D) (x:Int × Int) (st:List (Int × Int)) (hl:st.length < 1000):∃ b t,st=b++t/\(∀ q ∈ t,q.2 < x.1)/\(b=[]∨∃ b' q,b=b'++[q]/\¬ q.2 < x.1) /\
   bW 100000 vx bD (bz sm st (some (.d (ac x))))=some (.nx,bz sm b (some (.d (ac x)))):=by
 obtain ⟨b,⟨t,p1,p2⟩,q,e⟩:=ko (fc:=vx) (fb:=bD) (env:=fun b=>bz sm b (some (.d (ac x)))) (fun b=>∃ t,st=b++t/\∀ q ∈ t,q.2 < x.1) (fun b=>b=[]∨∃ b' q,b=b'++[q]/\¬ q.2 < x.1) (fun b=>b.length)
   (fun b hb=>by
     obtain ⟨t,p1,p2⟩:=hb
     have ng:eV (.int 1)=some (.int (-1)):=rfl
     rcases List.eq_nil_or_concat b with e | ⟨b',q,e⟩
     · subst e
       refine .inl ⟨.inl rfl,?_⟩
       have en:eqD 4 true (.lst []) (.lst [])=some (.bl false):=rfl
       walk_at "ev"
     · rw [List.concat_eq_append] at e
       subst e
       have en:eqD 4 true (.lst ((b'++[q]).map ac)) (.lst [])=some (.bl true):=by
         rw [uW (D5 _)]; simp
       have le:=vw b' q
       by_cases c:q.2 < x.1
       · have lt:ltD (.int q.2) (.int x.1)=some (.bl true):=by show some (D.bl (decide (q.2 < x.1)))=_; rw [decide_eq_true c]
         refine .inr ⟨b',?_,?_,⟨[q]++t,by rw [p1]; simp,fun p hp=>?_⟩,by simp⟩
         · walk_at "ev"
         · have hp:(List.map ac (b'++[q]))[(List.map ac (b'++[q])).length - 1]?=some (ac q):=by simp
           unfold bD
           walk_at "ev"
           simp
         · rcases Z11.mp hp with hp | hp
           · rw [Z12] at hp; subst hp; exact c
           · exact p2 p hp
       · have lt:ltD (.int q.2) (.int x.1)=some (.bl false):=by show some (D.bl (decide (q.2 < x.1)))=_; rw [decide_eq_false c]
         refine .inl ⟨.inr ⟨b',q,rfl,c⟩,?_⟩
         walk_at "ev") 100000 st ⟨[],by simp,by simp⟩ (by omega)
 exact ⟨b,t,p1,p2,q,e⟩
theorem yE {st b t:List (Int × Int)} {x:Int × Int} (hs:st=b++t) (ht:∀ q ∈ t,q.2 < x.1) (hb:b=[]∨∃ b' q,b=b'++[q]/\¬ q.2 < x.1) (hp:st.Pairwise fun p q=>q.2 < p.2):(st.filter fun q=>decide (x.1<=q.2))=b:=by
 subst hs
 have t0:(t.filter fun q=>decide (x.1<=q.2))=[]:=by
   rw [List.filter_eq_nil_iff]
   intro q hq
   have:=ht q hq
   simp
   omega
 rw [List.filter_append,t0,Z35,List.filter_eq_self]
 intro q hq
 rcases hb with rfl | ⟨b',m,rfl,hm⟩
 · cases hq
 · have h1:=(Z48.mp hp).1
   rcases Z11.mp hq with hq | hq
   · have:=(Z48.mp h1).2.2 q hq m (by simp)
     simp
     omega
   · rw [Z12] at hq
     subst hq
     simp
     omega
theorem ig:∀ l:List (Int × Int),D.immL (l.map ac)=true
 | []=>rfl
 | p::l=>by
   rw [Z6,D.immL,ig l]
   rfl
theorem B6 (l st:List (Int × Int)) (x:Int × Int):lB am (bz (.tup (l.map ac)) st (some (.d (ac x))))=true:=by
 have h0:D.imm (.tup (l.map ac))=true:=by rw [D.imm]; exact ig l
 have h2:=ig st
 show (List.range 4).all _=true
 rw [show List.range 4=[0,1,2,3] by decide]
 simp only [List.all_cons,List.all_nil,Bool.and_true]
 have e0:iY (aj am 0) (look (bz (.tup (l.map ac)) st (some (.d (ac x)))) 0)=true:=h0
 have e1:iY (aj am 1) (look (bz (.tup (l.map ac)) st (some (.d (ac x)))) 1)=true:=rfl
 have e2:iY (aj am 2) (look (bz (.tup (l.map ac)) st (some (.d (ac x)))) 2)=true:=h2
 have e3:iY (aj am 3) (look (bz (.tup (l.map ac)) st (some (.d (ac x)))) 3)=true:=rfl
 rw [e0,e1,e2,e3]
 rfl
structure RI (n:Int) (pre st:List (Int × Int)):Prop where
 a:∀ x,Sh n (pre++[x])->(st.filter fun q=>decide (x.1<=q.2))=aZ pre x
 b:st.Pairwise fun p q=>q.2 < p.2
 c:st.length<=pre.length
theorem RI.add {n:Int} {pre st:List (Int × Int)} {x:Int × Int} (h:Sh n (pre++[x])):RI n (pre++[x]) (aZ pre x++[x]) where
 a:=fun y hy=>by
   have hx:=hy.mem_add (q:=x) (by simp)
   unfold aZ
   rw [List.filter_append,List.filter_append,List.filter_filter]
   congr 1
   refine List.filter_congr fun q hq=>?_
   rw [Bool.eq_iff_iff]
   simp
   intro z
   omega
 b:=by
   refine Z48.mpr ⟨(kx h).imp fun z=>z.2,by simp,fun p hp q hq=>?_⟩
   rw [Z12] at hq
   subst hq
   exact ((aX h).mp hp).2
 c:=by
   rw [Z17,Z17]
   have:(aZ pre x).length<=pre.length:=Z34 _ _
   simp
   exact this
noncomputable abbrev B7:MT:=mB (mOp (eqD 4 false) (ae 2) (eU am al))
noncomputable abbrev yF:ME:=mOp ixD (ae 2) (mUn eV (mC (.int 1)))
noncomputable abbrev yG:MS:=cE (bc am 2 (af (ae 3) al))
theorem D6 (sm:D) (b:List (Int × Int)) (h:Option S):B7 (bz sm b h)=some (b.isEmpty,bz sm b h):=by
 have en:eqD 4 false (.lst (b.map ac)) (.lst [])=some (.bl b.isEmpty):=by
   rw [lE (D5 _)]
   cases b <;> rfl
 walk_at "ev"
theorem D7 (sm:D) (b:List (Int × Int)) (m:Int × Int) (h:Option S):yF (bz sm (b++[m]) h)=some (.val (ac m),bz sm (b++[m]) h):=by
 have ng:eV (.int 1)=some (.int (-1)):=rfl
 have le:=vw b m
 walk_at "ev"
theorem D8 (sm:D) (b:List (Int × Int)) (x:Int × Int) (hl:b.length < 1000):yG (bz sm b (some (.d (ac x))))=some (.nx,bz sm (b++[x]) (some (.d (ac x)))):=by
 walk_at "ev"
 simp
theorem B8 {n:Int} {pre st l:List (Int × Int)} {x:Int × Int} (h:Sh n (pre++[x])) (hl:pre.length < 900) (I:RI n pre st) (h3:Option S) :
   dE am (bW 100000 vx bD) B7 yF yG (ac x) (bz (.tup (l.map ac)) st h3,aF n pre)=some (bz (.tup (l.map ac)) (aZ pre x++[x]) (some (.d (ac x))),aF n (pre++[x])):=by
 obtain ⟨b,t,p1,p2,p3,p4⟩:=yD (.tup (l.map ac)) x st (by have:=I.c; omega)
 have eb:=yE p1 p2 p3 I.b
 rw [I.a x h] at eb
 subst eb
 have le:(aZ pre x).length<=pre.length:=Z34 _ _
 have kl:(aF n pre).length=pre.length+1:=by simp [aF]
 have il:∀ a b,(inner pre a b).length<=pre.length:=fun a b=>by
   unfold inner aG
   exact Z24 (Z34 _ _) (Z34 _ _)
 have nk:kyO x ∉ (aF n pre).map (·.1):=by
   rw [fm]
   intro z
   rcases Z19.mp z with z | z
   · cases z
   · obtain ⟨o,ho,e⟩:=Z18.mp z
     have:=fR e
     subst this
     have:=h.mem_add ho
     omega
 have sz:∀ kv ∈ gD (aF n pre) (kyO x),kv.2.length < sizeLine:=by
   intro kv hk
   unfold gD at hk
   rcases Z11.mp hk with hk | hk
   · unfold aF at hk
     rcases Z19.mp hk with rfl | hk
     · have:=il (-1) n
       exact bM (by simp [prs]; omega)
     · obtain ⟨o,ho,rfl⟩:=Z18.mp hk
       have:=il o.1 o.2
       exact bM (by simp [prs]; omega)
   · rw [Z12] at hk
     subst hk
     exact bM (by simp)
 have ky:(gD (aF n pre) (kyO x)).map (·.1)=none::pre.map kyO++[kyO x]:=by
   unfold gD
   rw [Z23,fm]
   rfl
 have im:=B6 l (aZ pre x) x
 unfold dE
 show (mNx (bW 100000 vx bD (bz (.tup (l.map ac)) st (some (.d (ac x)))))).bind _=_
 rw [p4]
 show (if lB am (bz (.tup (l.map ac)) (aZ pre x) (some (.d (ac x))))=true/\(aF n pre).length < sizeLine/\kyO x ∉ (aF n pre).map (·.1) then _ else none)=_
 rw [if_pos ⟨im,bM (by omega),nk⟩,D6,Z1]
 obtain ⟨k,k1,k2,k3⟩:∃ k,k ∈ none::pre.map kyO++[kyO x]/\((aZ pre x=[]/\k=none)∨∃ es m,aZ pre x=es++[m]/\k=kyO m)/\hV yF ((aZ pre x).isEmpty,bz (.tup (l.map ac)) (aZ pre x) (some (.d (ac x))))=some (bz (.tup (l.map ac)) (aZ pre x) (some (.d (ac x))),k):=by
   rcases List.eq_nil_or_concat (aZ pre x) with e | ⟨es,m,e⟩
   · exact ⟨none,by simp,.inl ⟨e,rfl⟩,by rw [e]; rfl⟩
   · rw [List.concat_eq_append] at e
     have mx:m ∈ pre:=((aX h).mp (by rw [e]; simp)).1
     refine ⟨kyO m,?_,.inr ⟨es,m,e,rfl⟩,?_⟩
     · exact Z37 _ (Z8 _ (Z18.mpr ⟨m,mx,rfl⟩))
     · rw [e]
       unfold hV
       rw [show (es++[m]).isEmpty=false by simp]
       simp only [Z47,if_false]
       rw [D7]
       rfl
 rw [k3,Z1]
 show (if D.imm (ac x)=true/\lB am (bz (.tup (l.map ac)) (aZ pre x) (some (.d (ac x))))=true/\k ∈ (gD (aF n pre) (kyO x)).map (·.1)/\(∀ kv ∈ gD (aF n pre) (kyO x),kv.2.length < sizeLine) then (mNx (yG (bz (.tup (l.map ac)) (aZ pre x) (some (.d (ac x)))))).bind fun ρ5=>some (ρ5,lC (gD (aF n pre) (kyO x)) k (ac x)) else none)=some (bz (.tup (l.map ac)) (aZ pre x++[x]) (some (.d (ac x))),aF n (pre++[x]))
 rw [if_pos ⟨rfl,im,by rw [ky]; exact k1,sz⟩,D8 _ _ _ (by omega),rV h k2]
 rfl
theorem vy {n:Int} {l:List (Int × Int)}:∀ (post pre st:List (Int × Int)) (h3:Option S),Sh n (pre++post)->(pre++post).length < 900->RI n pre st ->
   ∃ st' h',j9 (dE am (bW 100000 vx bD) B7 yF yG) (post.map ac) (bz (.tup (l.map ac)) st h3,aF n pre)=some (bz (.tup (l.map ac)) st' h',aF n (pre++post))
 | [],pre,st,h3,_,_,_=>⟨st,h3,by rw [Z35]; rfl⟩
 | x::post,pre,st,h3,h,hl,I=>by
   have e:pre++x::post=(pre++[x])++post:=by simp
   rw [e] at h hl ⊢
   have hx:=h.pre
   obtain ⟨st',h',r⟩:=vy post (pre++[x]) (aZ pre x++[x]) (some (.d (ac x))) h hl (RI.add hx (st:=st))
   refine ⟨st',h',?_⟩
   rw [Z6]
   unfold j9
   rw [B8 hx (by simp at hl; omega) I,Z1]
   exact r
theorem vz {n:Int} {sh:List (Int × Int)} (h:Sh n sh) (hl:sh.length < 900):m8 [.d (.tup (sh.map ac))]=some (.dn ((aF n sh).map fun kv=>(kv.1,.lst kv.2))):=by
 obtain ⟨st',h',r⟩:=vy (l:=sh) sh [] [] none (by simpa using h) (by simpa using hl) ⟨fun x _=>rfl,.nil,Z10 0⟩
 refine Ev.fn (ρ:=[some (.d (.tup (sh.map ac))),none,none,none]) (s:=.dn ((aF n sh).map fun kv=>(kv.1,.lst kv.2))) rfl (ρ1:=bz (.tup (sh.map ac)) st' h') ?_ rfl
 unfold lJ lD
 rw [if_pos ⟨by simp,rfl⟩]
 have e1:bq (bV am al) 2 [some (.d (.tup (sh.map ac))),none,none,none]=some (.nx,bz (.tup (sh.map ac)) [] none):=by walk_at "ev"
 rw [e1]
 show (if D.immL (sh.map ac)=true then _ else none)=_
 rw [if_pos (ig _)]
 have z:aF n []=[(none,[])]:=rfl
 rw [z] at r
 rw [r]
 rfl
open PySem L2
theorem Ev.asgDn {m:List S->Option S} {f:MA} {i:Nat} {os:List Op} {ss:List S} {kvs:List (NK × D)} {ρ ρ1 ρ2:En} (h1:f ρ=some (os,ρ1)) (h2:dA ρ1 os=some ss) (h3:m ss=some (.dn kvs)) (h4:ρ1.set i (some (.dn kvs))=ρ2):gC m f i ρ=some (.nx,ρ2):=by
 unfold gC
 subst h4
 simp only [h1,h2,h3,dnS,Z1]
local macro_rules | `(tactic| walk_at "evE")=>`(tactic| with_reducible apply Mir.Ev.AI)
local macro_rules | `(tactic| walk_at "evG")=>`(tactic| with_reducible apply Mir.Ev.gMPut)
local macro_rules | `(tactic| walk_at "evN")=>`(tactic| with_reducible exact Mir.Ev.mnew)
local macro_rules | `(tactic| walk_at "evS")=>`(tactic| first | with_reducible apply Mir.Ev.asgDn | with_reducible apply Mir.Ev.qW)
local macro_rules | `(tactic| walk_at "evI")=>`(tactic| with_reducible assumption)
noncomputable def brd (n:Int) (sh:List (Int × Int)):NK->Int
 | none=>((inner sh (-1) n).length:Int)
 | some [a,b]=>((inner sh a b).length:Int)+1
 | _=>0
@[reducible] noncomputable def cW (n:Int) (sh:List (Int × Int)):List (NK × D):=(aF n sh).map fun kv=>(kv.1,.lst kv.2)
@[reducible] noncomputable def ba (sh:List (Int × Int)):List NK:=none::sh.map kyO
@[reducible] noncomputable def fS (n:Int) (sh:List (Int × Int)) (ks:List NK):List (NK × D):=ks.map fun k=>(k,.int (brd n sh k))
theorem vA {α:Type} {f:α->NK} {g:α->D}:∀ {l:List α} {x:α},x ∈ l->(∀ y ∈ l,f y=f x->y=x)->aM (l.map fun y=>(f y,g y)) (f x)=some (g x)
 | y::l,x,hx,hi=>by
   rw [Z6]
   unfold aM
   by_cases c:f y=f x
   · rw [if_pos c,hi y (by simp) c]
   · rw [if_neg c]
     rcases Z19.mp hx with rfl | hx
     · exact absurd rfl c
     · exact vA hx fun z hz=>hi z (by simp [hz])
theorem rW {n:Int} {sh:List (Int × Int)} {o:Int × Int} (ho:o ∈ sh):aM (cW n sh) (kyO o)=some (.lst (prs (inner sh o.1 o.2))):=by
 unfold cW aF
 rw [Z6,Z31]
 unfold aM
 rw [if_neg (by simp [kyO])]
 exact vA (f:=kyO) (g:=fun o=>D.lst (prs (inner sh o.1 o.2))) ho fun y _ e=>fR e
theorem vB {n:Int} {sh:List (Int × Int)} {ks:List NK} {k:NK} (hk:k ∉ ks):aM (fS n sh ks) k=none:=by
 induction ks with
 | nil=>rfl
 | cons x r ih=>
   unfold fS
   rw [Z6]
   unfold aM
   rw [if_neg (fun z=>hk (by rw [<- z]; simp))]
   exact ih fun z=>hk (by simp [z])
theorem vC {n:Int} {sh:List (Int × Int)} (h:Sh n sh):(ba sh).Nodup:=by
 unfold ba
 refine List.nodup_cons.mpr ⟨by simp [kyO],?_⟩
 have:sh.Nodup:=h.2.imp fun {a b} z e=>by rw [e] at z; omega
 exact List.Pairwise.map kyO (fun a b hne e=>hne (fR e)) this
theorem qk {n:Int} {sh:List (Int × Int)}:∀ ks:List NK,D.immL ((fS n sh ks).map (·.2))=true
 | []=>rfl
 | k::ks=>by
   unfold fS
   rw [Z6,Z6,D.immL,qk ks]
   rfl
theorem nH {n:Int} {sh:List (Int × Int)} (h:Sh n sh) (hl:sh.length < 900):nu [.d (.tup (sh.map ac))]=some (.dn (fS n sh (ba sh))):=by
 have ro:=vz h hl
 have nd:=vC h
 obtain ⟨b,hb,loop⟩:=ck (g:=ah 3) (f:=dN) (e:=nkE) (l:=ba sh) (env:=fun fd:List (NK × D)=>[none,some (.dn (cW n sh)),some (.dm fd),none]) (fun pre fd=>fd=fS n sh pre)
   (fun pre k post fd hsp hP=>by
     subst hP
     have kn:k ∉ pre:=by
       rw [hsp] at nd
       intro z
       exact (List.nodup_append.mp nd).2.2 k z k (by simp) rfl
     have vn:=vB (n:=n) (sh:=sh) kn
     have dl:(fS n sh pre).length < 1000000:=by
       have:=congrArg List.length hsp
       simp [ba] at this
       simp
       omega
     refine ⟨_,rfl,?_⟩
     have hk:k ∈ ba sh:=by rw [hsp]; simp
     rcases Z19.mp hk with rfl | hk
     · have v:aM (cW n sh) none=some (.lst (prs (inner sh (-1) n))):=rfl
       have ln:bT [.lst (prs (inner sh (-1) n))]=some (.int ((inner sh (-1) n).length:Int)):=by
         have:=yb (l:=prs (inner sh (-1) n))
         rw [Z2] at this
         exact this
       have nk:nkD .non=some none:=rfl
       have ib:oq [.bl false]=some (.int 0):=rfl
       show ∃ ρ1,ah 3 .non _=some ρ1/\_
       apply Ev.turn
       walk_at "ev"
       unfold dN
       walk_at "ev"
       simp [fS,brd]
     · obtain ⟨o,ho,rfl⟩:=Z18.mp hk
       have v:=rW (n:=n) ho
       have ln:bT [.lst (prs (inner sh o.1 o.2))]=some (.int ((inner sh o.1 o.2).length:Int)):=by
         have:=yb (l:=prs (inner sh o.1 o.2))
         rw [Z2] at this
         exact this
       have nk:nkD (ac o)=some (kyO o):=rfl
       have ib:oq [.bl true]=some (.int 1):=rfl
       show ∃ ρ1,ah 3 (ac o) _=some ρ1/\_
       apply Ev.turn
       walk_at "ev"
       unfold dN
       walk_at "ev"
       simp [fS,brd]) [] rfl
 subst hb
 have hi:oP 1 [none,some (.dn (cW n sh)),some (.dm []),none]=some ((ba sh).map nkE,[none,some (.dn (cW n sh)),some (.dm []),none]):=by
   refine Ev.ndI rfl ?_
   have e:(cW n sh).map (·.1)=ba sh:=by
     unfold cW
     rw [Z31]
     exact fm n sh
   rw [<- e]
   generalize cW n sh=R
   rw [Z31]
   rfl
 have im:=qk (n:=n) (sh:=sh) (ba sh)
 apply Ev.fn (ρ:=[some (.d (.tup (sh.map ac))),none,none,none]) rfl
 unfold lO
 walk_at "ev"
open PySem L2
local macro_rules | `(tactic| walk_at "evI")=>`(tactic| first | with_reducible apply Ev.enuL | with_reducible apply Mir.Ev.enuO)
local macro_rules | `(tactic| walk_at "evS")=>`(tactic| with_reducible apply Mir.Ev.asgTO)
theorem cN:∀ l:List (Int × Int),D.immL (l.map ac)=true
 | []=>rfl
 | p::l=>by
   rw [Z6,D.immL,cN l]
   rfl
noncomputable def df (n:Int) (sh:List (Int × Int)):Option (Int × Int)->List (Int × Int)
 | none=>inner sh (-1) n
 | some o=>inner sh o.1 o.2++[(o.2,o.1)]
@[reducible] noncomputable def opD:Option (Int × Int)->D
 | none=>.non
 | some o=>ac o
theorem gI (sh:List (Int × Int)) (a b:Int):(inner sh a b).length<=sh.length:=by
 unfold inner aG
 exact Z24 (Z34 _ _) (Z34 _ _)
theorem o8 {n:Int} {sh:List (Int × Int)} (hn:0<=n/\n<=100) (h:Sh n sh) (hl:sh.length < 900) {k:Option (Int × Int)} (hk:∀ o,k=some o->o ∈ sh):oW [.d (.int n),.d (.tup (sh.map ac)),.d (opD k)]=some (.d (.lst ((df n sh k).map ac))):=by
 cases k with
 | none=>
   obtain ⟨free,_,ro⟩:=rP hn h
   have im:=cN (inner sh (-1) n)
   show oW [.d (.int n),.d (.tup (sh.map ac)),.d .non]=some (.d (.lst ((inner sh (-1) n).map ac)))
   generalize sh.map ac=Sm at *
   apply Ev.fn (ρ:=[some (.d (.int n)),some (.d (.tup Sm)),some (.d .non),none,none]) rfl
   unfold nv
   walk_at "ev"
 | some o=>
   obtain ⟨free,_,ro⟩:=yq hn h (hk o rfl)
   have im:=cN (inner sh o.1 o.2)
   have im2:=cN (inner sh o.1 o.2++[(o.2,o.1)])
   rw [Z23] at im2
   have il:=gI sh o.1 o.2
   show oW [.d (.int n),.d (.tup (sh.map ac)),.d (ac o)]=some (.d (.lst ((inner sh o.1 o.2++[(o.2,o.1)]).map ac)))
   rw [Z23]
   generalize sh.map ac=Sm at *
   apply Ev.fn (ρ:=[some (.d (.int n)),some (.d (.tup Sm)),some (.d (ac o)),none,none]) rfl
   unfold nv
   walk_at "ev"
   · exact if_pos im2
   all_goals rfl
theorem o9 {α:Type} {md:List Md} {ft:MT} {f:ME} {e1 e2 h:α->D} {c:α->Bool} {r:En} {l:List α} (ht:∀ a ∈ l,ft (some (.d (e1 a))::some (.d (e2 a))::r)=some (c a,some (.d (e1 a))::some (.d (e2 a))::r)) (hf:∀ a ∈ l,c a=true->∃ o,f (some (.d (e1 a))::some (.d (e2 a))::r)=some (o,some (.d (e1 a))::some (.d (e2 a))::r)/\sto md (some (.d (e1 a))::some (.d (e2 a))::r) o=some (h a)) (hl:l.length < 1000000) (x y:Option S) :
   ∃ x' y',lpM (bJ 2 (aD (ah 0) (aD (ah 1) bU))) ft (iI md f) (l.map fun a=>.tup [e1 a,e2 a]) (x::y::r) []=some (x'::y'::r,(l.filter c).map h):=by
 obtain ⟨b,as,⟨p1,_⟩,p2⟩:=Ev.BR (g:=bJ 2 (aD (ah 0) (aD (ah 1) bU))) (ft:=ft) (fb:=iI md f) (e:=fun a=>.tup [e1 a,e2 a]) (env:=fun b:Option S × Option S=>b.1::b.2::r) (l:=l) (fun pre _ as=>as=(pre.filter c).map h/\pre.length<=l.length)
   (fun pre a post b as hsp hp=>by
     have ha:a ∈ l:=by rw [hsp]; simp
     have hlen:=congrArg List.length hsp
     simp at hlen
     have hfl:=Z34 c pre
     cases hc:c a with
     | true=>
       obtain ⟨o,h1,h2⟩:=hf a ha hc
       exact ⟨(some (.d (e1 a)),some (.d (e2 a))),as++[h a],⟨by rw [hp.1]; simp -iota [List.filter_append,hc],by simp; omega⟩,Ev.DO (ρ1:=some (.d (e1 a))::some (.d (e2 a))::r) (ρ2:=some (.d (e1 a))::some (.d (e2 a))::r) rfl (by rw [ht a ha,hc]) (Ev.DN h1 h2 (by rw [hp.1,Z2]; omega)) rfl⟩
     | false=>exact ⟨(some (.d (e1 a)),some (.d (e2 a))),as,⟨by rw [hp.1]; simp -iota [List.filter_append,hc],by simp; omega⟩,Ev.DP (ρ1:=some (.d (e1 a))::some (.d (e2 a))::r) (ρ2:=some (.d (e1 a))::some (.d (e2 a))::r) rfl (by rw [ht a ha,hc]) rfl⟩) (x,y) [] ⟨rfl,Z30 _⟩
 exact ⟨b.1,b.2,by rw [<- p1]; exact p2⟩
theorem vD (l:List Int):iW (l.map D.int)=(ups 0 l.length).map fun i=>D.tup [.int i,.int (l.getD i.toNat 0)]:=by
 unfold iW ups
 rw [Z31]
 apply List.ext_getElem
 · simp
 · intro i h1 h2
   simp at h1
   simp [Z5,h1]
theorem kz {c d:Option S} {n:Int} {R:List Int} (hR:(R.length:Int)=n) {o b:Int} (ho:0<=o/\o < n) (hb:0<=b/\b < n) :
   ∃ ρ1,bJ 2 (aD (ah 5) (aD (ah 6) bU)) (.tup [.int o,.int b]) [none,none,c,d,some (.d (.lst (R.map D.int))),none,none]=some ρ1/\hZ ρ1=some (.nx,[none,none,c,d,some (.d (.lst (((R.set o.toNat b).set b.toNat o).map D.int))),none,none]):=by
 have lr:(R.map D.int).length=n:=by simp; omega
 rw [List.map_set,List.map_set]
 generalize R.map D.int=RM at *
 apply Ev.turn
 walk_at "ev"
 unfold hZ
 walk_at "ev"
noncomputable def rr (n:Int) (sh:List (Int × Int)) (one other:Int × Int):List Int:=(((((cU n sh).set one.1.toNat other.2).set other.2.toNat one.1).set other.1.toNat one.2).set one.2.toNat other.1)
theorem vE {n:Int} {sh:List (Int × Int)} (hn:0<=n/\n<=100) (h:Sh n sh) {one other:Int × Int} (h1:0<=one.1/\one.1 < n/\0<=one.2/\one.2 < n) (h2:0<=other.1/\other.1 < n/\0<=other.2/\other.2 < n) :
   u6 [.d (.int n),.d (.tup (sh.map ac)),.d (ac one),.d (ac other)]=some (.d (.tup ((ys n fun z=>(rr n sh one other).getD z.toNat 0).map ac))):=by
 have hr:=o5 hn.1 hn.2 h.in2
 have rl:=lQ (n:=n) (sh:=sh)
 have t1:=kz (c:=some (.d (ac one))) (d:=some (.d (ac other))) (n:=n) (R:=cU n sh) (by omega) (o:=one.1) (b:=other.2) (by omega) (by omega)
 have t2:=kz (c:=some (.d (ac one))) (d:=some (.d (ac other))) (n:=n) (R:=((cU n sh).set one.1.toNat other.2).set other.2.toNat one.1) (by simp; omega) (o:=other.1) (b:=one.2) (by omega) (by omega)
 have loop:=(RunF.app (RunF.one t1) (RunF.one t2)).run
 have e:(((((cU n sh).set one.1.toNat other.2).set other.2.toNat one.1).set other.1.toNat one.2).set one.2.toNat other.1)=rr n sh one other:=rfl
 rw [e] at loop
 have len:(rr n sh one other).length=n.toNat:=by unfold rr; simp [rl]
 have en:=vD (rr n sh one other)
 rw [len] at en
 generalize rr n sh one other=R at *
 obtain ⟨x',y',lp⟩:=o9 (md:=dy cJ 2 [] []) (ft:=mB (mOp ltD (ae 0) (ae 1))) (f:=cB (dy cJ 2 [] []) (af (ae 0) (af (ae 1) al))) (e1:=fun i=>.int i) (e2:=fun i=>.int (R.getD i.toNat 0)) (h:=fun i=>ac (i,R.getD i.toNat 0)) (c:=fun i=>decide (i < R.getD i.toNat 0)) (r:=[]) (l:=ups 0 n.toNat) (fun i hi=>by walk_at "ev") (fun i hi _=>⟨_,by walk_at "ev",rfl⟩) (by rw [eC]; omega) none none
 have tx:uf [.lst (((ups 0 n.toNat).filter fun i=>decide (i < R.getD i.toNat 0)).map fun i=>ac (i,R.getD i.toNat 0))]=some (.tup ((ys n fun z=>R.getD z.toNat 0).map ac)):=by
   unfold ys
   rw [Z31]
   rfl
 rw [<- en] at lp
 generalize sh.map ac=Sm at *
 simp only [Z51,List.nil_append] at loop
 apply Ev.fn (ρ:=[some (.d (.int n)),some (.d (.tup Sm)),some (.d (ac one)),some (.d (ac other)),none,none,none]) rfl
 unfold qd
 walk_at "ev"
open PySem L2
theorem rX {α:Type} {g:MG} {f:MS} {e:α->D} {ρ:En} {N:α->Prop} {Y:S->Prop} {l:List α} (hs:∀ a ∈ l,∃ ρ1,g (e a) ρ=some ρ1/\((N a/\f ρ1=some (.nx,ρ))∨∃ s ρ2,Y s/\f ρ1=some (.ret s,ρ2))) :
   ((∀ a ∈ l,N a)/\bg g f (l.map e) ρ=some (.nx,ρ))∨∃ s ρ2,Y s/\bg g f (l.map e) ρ=some (.ret s,ρ2):=by
 induction l with
 | nil=>exact .inl ⟨fun _ h=>(by cases h),rfl⟩
 | cons a l ih=>
   obtain ⟨ρ1,h1,h2⟩:=hs a (by simp)
   rcases h2 with ⟨h2,h3⟩ | ⟨s,ρ2,h2,h3⟩
   · have st:bg g f ((a::l).map e) ρ=bg g f (l.map e) ρ:=by rw [Z6,dF h1 h3]
     rw [st]
     rcases ih fun b hb=>hs b (by simp [hb]) with ⟨i1,i2⟩ | i
     · exact .inl ⟨fun b hb=>by rcases Z19.mp hb with rfl | hb; exact h2; exact i1 b hb,i2⟩
     · exact .inr i
   · refine .inr ⟨s,ρ2,h2,?_⟩
     rw [Z6]
     unfold bg
     rw [h1,Z1,h3,Z1]
theorem jh {n:Int} {sh:List (Int × Int)} (h:Sh n sh) {p:Int × Int} (hp:p ∈ sh):(cU n sh).getD p.2.toNat 0=p.1:=by
 have hb:=h.1 p hp
 unfold cU
 rw [ic p.2.toNat sh _ h.in2 (by simp),show ((p.2.toNat:Nat):Int)=p.2 by omega]
 obtain ⟨l1,l2,rfl⟩:=List.append_of_mem hp
 rw [List.foldl_append,Z40,ie]
 · unfold kr
   rw [if_pos rfl]
 · intro q hq
   have h2:=h.2
   rw [Z48] at h2
   have h3:=List.pairwise_cons.mp h2.2.1
   have h4:=h3.1 q hq
   have hq':=h.1 q (by simp [hq])
   constructor <;> omega
theorem zG {n:Int} {sh:List (Int × Int)} {one other:Int × Int} (h1:0<=one.1/\one.1 < n/\0<=one.2/\one.2 < n) (h2:0<=other.1/\other.1 < n/\0<=other.2/\other.2 < n) (d:one.1 ≠ other.2/\one.1 ≠ other.1/\one.1 ≠ one.2/\other.2 ≠ other.1/\other.2 ≠ one.2/\other.1 ≠ one.2) (z:Int) (hz:0<=z) :
   (rr n sh one other).getD z.toNat 0=if z=one.1 then other.2 else if z=other.2 then one.1 else if z=other.1 then one.2 else if z=one.2 then other.1 else (cU n sh).getD z.toNat 0:=by
 have rl:=lQ (n:=n) (sh:=sh)
 unfold rr
 rw [cM _ _ _ _ _ (by simp [rl]; omega),cM _ _ _ _ _ (by simp [rl]; omega),cM _ _ _ _ _ (by simp [rl]; omega),cM _ _ _ _ _ (by simp [rl]; omega)]
 have e1:(one.2.toNat=z.toNat)=(z=one.2):=propext (by omega)
 have e2:(other.1.toNat=z.toNat)=(z=other.1):=propext (by omega)
 have e3:(other.2.toNat=z.toNat)=(z=other.2):=propext (by omega)
 have e4:(one.1.toNat=z.toNat)=(z=one.1):=propext (by omega)
 simp only [e1,e2,e3,e4]
 split
 · rw [if_neg (by omega),if_neg (by omega),if_neg (by omega)]
 · split
   · rw [if_neg (by omega),if_neg (by omega)]
   · split
     · rw [if_neg (by omega)]
     · rfl
theorem pc {α:Type} {f:α->Nat}:∀ {l:List α},(l.Pairwise fun p q=>f p ≠ f q)->∀ p ∈ l,∀ q ∈ l,f p=f q->p=q
 | [],_,p,hp,_,_,_=>by cases hp
 | a::l,h,p,hp,q,hq,e=>by
   have h':=List.pairwise_cons.mp h
   rcases Z19.mp hp with c | hp <;> rcases Z19.mp hq with d | hq
   · rw [c,d]
   · exact absurd (by rw [<- c]; exact e) (h'.1 q hq)
   · exact absurd (by rw [<- d]; exact e.symm) (h'.1 p hp)
   · exact pc h'.2 p hp q hq e
theorem pd:∀ {m:Nat} {l:List Nat},l.Nodup->(∀ x ∈ l,x < m)->l.length<=m
 | 0,l,_,h=>by
   cases l with
   | nil=>exact Z10 _
   | cons x l=>exact absurd (h x (by simp)) (Nat.not_lt_zero _)
 | m+1,l,nd,h=>by
   by_cases c:m ∈ l
   · have h1:=pd (m:=m) (l:=l.erase m) (nd.erase m) (fun x hx=>by
       have h2:=(nd.mem_erase_iff).mp hx
       have:=h x h2.2
       have:=h2.1
       omega)
     rw [List.length_erase_of_mem c] at h1
     omega
   · have h1:=pd (m:=m) (l:=l) nd (fun x hx=>by
       have:=h x hx
       have:x ≠ m:=fun z=>c (by rw [<- z]; exact hx)
       omega)
     omega
theorem fl2 (x:Nat):fl (fl x)=x:=by unfold fl; split <;> split <;> omega
noncomputable def isK (sh:List (Int × Int)) (k:Option (Int × Int)):Prop:=∀ o,k=some o->o ∈ sh
theorem pf {n:Int} {sh:List (Int × Int)} (h:Sh n sh) {a b:Int} {p:Int × Int} (hp:p ∈ inner sh a b):p ∈ sh/\a < p.1/\p.2 < b/\0<=p.1/\p.1 < p.2/\p.2 < n:=by
 have h1:=within_mem.mp (inner_mem.mp hp).1
 exact ⟨h1.1,h1.2.1,h1.2.2,h.1 p h1.1⟩
theorem yH {ls:List Nat} {sh:List (Int × Int)} (fu:Fu (fe ls) 0 ls.length sh) {k:Option (Int × Int)} (hk:isK sh k) {i j:Nat} {one other:Int × Int} (hij:i < j) (hi:(df ls.length sh k)[i]?=some other) (hj:(df ls.length sh k)[j]?=some one) (he:lt9 ls one.1=lt9 ls other.1) :
   (0<=one.1/\one.1 < ls.length/\0<=one.2/\one.2 < ls.length)/\(0<=other.1/\other.1 < ls.length/\0<=other.2/\other.2 < ls.length) /\
   (let y:=ys ls.length fun z=>(rr ls.length sh one other).getD z.toNat 0
   y ≠ sh/\Fu (fe ls) 0 ls.length y):=by
 have h:=fu.sh
 have hf:=fu.all
 obtain ⟨_,rk⟩:=fu.rk
 have hm:∀ p ∈ sh,lt9 ls p.2=fl (lt9 ls p.1):=fun p hp=>of_decide_eq_true (rk.in2 p hp).2.2.2
 have goal:∀ {A B C D:Int × Int},Xch ls.length sh A B C D (fun z=>(rr ls.length sh one other).getD z.toNat 0)->((A.2 < B.1/\C=(A.1,B.2)/\D=(A.2,B.1))∨(A.1 < B.1/\B.2 < A.2/\C=(A.1,B.1)/\D=(B.2,A.2))) ->
     (∀ q ∈ sh,(A.2 < B.1->((q.1 < A.1/\A.2 < q.2) ↔ (q.1 < B.1/\B.2 < q.2)))/\(B.2 < A.2->¬ (A.1 < q.1/\q.1 < B.1/\B.2 < q.2/\q.2 < A.2)))->lt9 ls C.2=fl (lt9 ls C.1)->lt9 ls D.2=fl (lt9 ls D.1) ->
     (let y:=ys ls.length fun z=>(rr ls.length sh one other).getD z.toNat 0
     y ≠ sh/\Fu (fe ls) 0 ls.length y):=by
   intro A B C D X g ring mc md
   obtain ⟨f1,f2,f3⟩:=X.full g ring
   refine ⟨f3,B4 (by omega) f1 (fun p hp=>decide_eq_true ?_) f2⟩
   rcases (X.mem g p).mp hp with ⟨h1,_,_⟩ | rfl | rfl
   · exact hm p h1
   · exact mc
   · exact md
 have cross:∀ {a b:Int},vk sh a b->other ∈ inner sh a b->one ∈ inner sh a b->other.1 < one.1->(0<=one.1/\one.1 < ls.length/\0<=one.2/\one.2 < ls.length)/\(0<=other.1/\other.1 < ls.length/\0<=other.2/\other.2 < ls.length) /\
     (let y:=ys ls.length fun z=>(rr ls.length sh one other).getD z.toNat 0
     y ≠ sh/\Fu (fe ls) 0 ls.length y):=by
   intro a b pt m1 m2 lt
   obtain ⟨s1,a1,a2,a3,a4,a5⟩:=pf h m1
   obtain ⟨s2,b1,b2,b3,b4,b5⟩:=pf h m2
   have n1:=(inner_mem.mp m1).2
   have n2:=(inner_mem.mp m2).2
   have apart:other.2 < one.1:=by
     have:=h.two s1 s2 lt
     have:=n2 other (inner_mem.mp m1).1 lt
     omega
   have rt:=zG (n:=ls.length) (sh:=sh) (one:=one) (other:=other) (by omega) (by omega) (by omega)
   refine ⟨by omega,by omega,goal (A:=other) (B:=one) (C:=(other.1,one.2)) (D:=(other.2,one.1)) ⟨h,hf,s1,s2,fun p hp pa pb=>?_,?_,?_,?_,?_⟩ (.inl ⟨apart,rfl,rfl⟩) (fun q hq=>⟨fun _=>?_,fun z=>by omega⟩) ?_ ?_⟩
   · have r1:=h.rel hp s1
     have r2:=h.rel hp s2
     have p0:=h.1 p hp
     have e1:=eJ pa
     have e2:=eJ pb
     rw [rt p.1 (by omega),rt p.2 (by omega),if_neg (by omega),if_neg (by omega),if_neg (by omega),if_neg (by omega),if_neg (by omega),if_neg (by omega),if_neg (by omega),if_neg (by omega)]
     exact ⟨gE h hp,jh h hp⟩
   · dsimp only; rw [rt _ (by omega),if_neg (by omega),if_neg (by omega),if_pos rfl]
   · dsimp only; rw [rt _ (by omega),if_neg (by omega),if_neg (by omega),if_neg (by omega),if_pos rfl]
   · dsimp only; rw [rt _ (by omega),if_neg (by omega),if_pos rfl]
   · dsimp only; rw [rt _ (by omega),if_pos rfl]
   · have q0:=h.1 q hq
     have qp:=pt q hq
     have w:∀ {c:Int × Int},c ∈ inner sh a b->q.1 < c.1->c.2 < q.2->q.1<=a/\b<=q.2:=fun {c} hc z1 z2=>by
       have c1:=pf h hc
       have c2:=(inner_mem.mp hc).2 q
       by_cases z:a < q.1
       · have:=qp.1 z (by omega)
         exact absurd z2 (c2 (within_mem.mpr ⟨hq,z,this⟩) z1)
       · by_cases y:q.2 < b
         · have:=qp.2 (by omega) y; omega
         · omega
     constructor
     · rintro ⟨z1,z2⟩
       have:=w m1 z1 z2
       omega
     · rintro ⟨z1,z2⟩
       have:=w m2 z1 z2
       omega
   · dsimp only; rw [hm one s2,he]
   · dsimp only; rw [hm other s1,fl2,he]
 cases k with
 | none=>
   have m1:other ∈ inner sh (-1) ls.length:=List.mem_of_getElem? hi
   have m2:one ∈ inner sh (-1) ls.length:=List.mem_of_getElem? hj
   refine cross (je h) m1 m2 ?_
   have so:=cV h (-1) ls.length
   obtain ⟨li,ei⟩:=Z9.mp hi
   obtain ⟨lj,ej⟩:=Z9.mp hj
   have:=List.pairwise_iff_getElem.mp so i j li lj hij
   have ei':(inner sh (-1) ls.length)[i]=other:=ei
   have ej':(inner sh (-1) ls.length)[j]=one:=ej
   rw [ei',ej'] at this
   exact this
 | some o=>
   have ho:=hk o rfl
   have o0:=h.1 o ho
   replace hi:(inner sh o.1 o.2++[(o.2,o.1)])[i]?=some other:=hi
   replace hj:(inner sh o.1 o.2++[(o.2,o.1)])[j]?=some one:=hj
   have jl:j < (inner sh o.1 o.2).length+1:=by
     obtain ⟨lj,_⟩:=Z9.mp hj
     simpa using lj
   rw [List.getElem?_append_left (by omega)] at hi
   have m1:other ∈ inner sh o.1 o.2:=List.mem_of_getElem? hi
   by_cases c:j < (inner sh o.1 o.2).length
   · rw [List.getElem?_append_left c] at hj
     have m2:one ∈ inner sh o.1 o.2:=List.mem_of_getElem? hj
     refine cross (gF h ho) m1 m2 ?_
     have so:=cV h o.1 o.2
     obtain ⟨li,ei⟩:=Z9.mp hi
     obtain ⟨lj,ej⟩:=Z9.mp hj
     have:=List.pairwise_iff_getElem.mp so i j li lj hij
     rw [ei,ej] at this
     exact this
   · rw [List.getElem?_append_right (by omega),show j - (inner sh o.1 o.2).length=0 by omega] at hj
     have e1:one=(o.2,o.1):=by simpa using hj.symm
     subst e1
     dsimp only at he
     obtain ⟨s1,a1,a2,a3,a4,a5⟩:=pf h m1
     have n1:=(inner_mem.mp m1).2
     have rt:=zG (n:=ls.length) (sh:=sh) (one:=(o.2,o.1)) (other:=other) (by dsimp only; omega) (by omega) (by dsimp only; omega)
     dsimp only at rt
     refine ⟨by dsimp only; omega,by omega,goal (A:=o) (B:=other) (C:=(o.1,other.1)) (D:=(other.2,o.2)) ⟨h,hf,ho,s1,fun p hp pa pb=>?_,?_,?_,?_,?_⟩ (.inr ⟨by omega,by omega,rfl,rfl⟩) (fun q hq=>⟨fun _=>by omega,fun _ z=>?_⟩) ?_ ?_⟩
     · have r1:=h.rel hp s1
       have r2:=h.rel hp ho
       have p0:=h.1 p hp
       have e1:=eJ pa
       have e2:=eJ pb
       rw [rt p.1 (by omega),rt p.2 (by omega),if_neg (by omega),if_neg (by omega),if_neg (by omega),if_neg (by omega),if_neg (by omega),if_neg (by omega),if_neg (by omega),if_neg (by omega)]
       exact ⟨gE h hp,jh h hp⟩
     · dsimp only; rw [rt _ (by omega),if_neg (by omega),if_neg (by omega),if_neg (by omega),if_pos rfl]
     · dsimp only; rw [rt _ (by omega),if_neg (by omega),if_neg (by omega),if_pos rfl]
     · dsimp only; rw [rt _ (by omega),if_neg (by omega),if_pos rfl]
     · dsimp only; rw [rt _ (by omega),if_pos rfl]
     · exact n1 q (within_mem.mpr ⟨hq,z.1,z.2.2.2⟩) z.2.1 z.2.2.1
     · dsimp only; rw [<- he,hm o ho]
     · dsimp only; rw [hm other s1,fl2,he]
open PySem L2
@[reducible] noncomputable def kks (sh:List (Int × Int)):List (Option (Int × Int)):=none::sh.map some
theorem vF {sh:List (Int × Int)} {k:Option (Int × Int)} (h:k ∈ kks sh):isK sh k:=by
 intro o e
 subst e
 rcases Z19.mp h with z | z
 · cases z
 · obtain ⟨p,hp,e⟩:=Z18.mp z
   cases e
   exact hp
theorem vG {n:Int} {sh:List (Int × Int)} (h:Sh n sh) {k:Option (Int × Int)} (hk:isK sh k):∀ w ∈ df n sh k,0<=w.1/\w.1 < n:=by
 intro w hw
 cases k with
 | none=>have:=pf h (show w ∈ inner sh (-1) n from hw); omega
 | some o=>
   rcases Z11.mp (show w ∈ inner sh o.1 o.2++[(o.2,o.1)] from hw) with z | z
   · have:=pf h z; omega
   · rw [Z12] at z
     subst z
     have:=h.1 o (hk o rfl)
     dsimp only
     omega
theorem yI (n:Int) (sh:List (Int × Int)) (k:Option (Int × Int)):(df n sh k).length<=sh.length+1:=by
 cases k with
 | none=>have:=gI sh (-1) n; exact Nat.le_succ_of_le this
 | some o=>
   show (inner sh o.1 o.2++[(o.2,o.1)]).length<=_
   have:=gI sh o.1 o.2
   simp
   omega
theorem vH {ls:List Nat} (hl:ls.length<=40) {sh:List (Int × Int)} (fu:Fu (fe ls) 0 ls.length sh) :
   ((∀ k ∈ kks sh,(df ls.length sh k).Pairwise fun p q=>lt9 ls p.1 ≠ lt9 ls q.1)/\rM [.d (.str (tx9 ls)),.d (.tup (sh.map ac))]=some (.d .non)) ∨
   ∃ y,y ≠ sh/\Fu (fe ls) 0 ls.length y/\rM [.d (.str (tx9 ls)),.d (.tup (sh.map ac))]=some (.d (.tup (y.map ac))):=by
 have h:=fu.sh
 obtain ⟨_,rk⟩:=fu.rk
 have hs:=rk.len
 have hlen:=BZ (ls:=ls) (by omega)
 have ff:=rX (g:=ah 3) (f:=cT) (e:=opD) (ρ:=[some (.d (.str (tx9 ls))),some (.d (.tup (sh.map ac))),some (.d (.int ls.length)),none,none]) (N:=fun k=>(df ls.length sh k).Pairwise fun p q=>lt9 ls p.1 ≠ lt9 ls q.1) (Y:=fun s=>∃ y,y ≠ sh/\Fu (fe ls) 0 ls.length y/\s=.d (.tup (y.map ac))) (l:=kks sh) (fun k hk=>by
   have hk:=vF hk
   have wo:=o8 (n:=ls.length) ⟨by omega,by omega⟩ h (by omega) hk
   refine ⟨_,rfl,?_⟩
   have wl:=yI ls.length sh k
   rcases vv hl (W:=df ls.length sh k) (by omega) (vG h hk) with ⟨a1,a2⟩ | ⟨i,j,one,other,a1,a2,a3,a4,a5⟩
   · left
     refine ⟨a1,?_⟩
     have ny:ly .non .non=some (.bl false):=rfl
     generalize (df ls.length sh k).map ac=WM at *
     generalize sh.map ac=Sm at *
     generalize opD k=kd at *
     show cT _=_
     unfold cT
     walk_at "ev"
   · right
     obtain ⟨b1,b2,b3,b4⟩:=yH fu hk a1 a2 a3 a4
     have bk:=vE (n:=ls.length) ⟨by omega,by omega⟩ h b1 b2
     have ny:ly (.tup [ac one,ac other]) .non=some (.bl true):=rfl
     generalize (ys ls.length fun z=>(rr ls.length sh one other).getD z.toNat 0)=y at *
     have io:cp (some (.tup (y.map ac)))=some (.tup (y.map ac)):=if_pos (by rw [D.imm]; exact cN y)
     suffices st:∃ ρ2,cT [some (.d (.str (tx9 ls))),some (.d (.tup (sh.map ac))),some (.d (.int ls.length)),some (.d (opD k)),none]=some (.ret (.d (.tup (y.map ac))),ρ2) by
       obtain ⟨ρ2,st⟩:=st
       exact ⟨_,ρ2,⟨y,b3,b4,rfl⟩,st⟩
     generalize (df ls.length sh k).map ac=WM at *
     generalize sh.map ac=Sm at *
     generalize opD k=kd at *
     generalize y.map ac=Ym at *
     apply Exists.intro
     unfold cT
     walk_at "ev")
 have ek:(kks sh).map opD=.non::sh.map ac:=by
   show opD none::(sh.map some).map opD=_
   rw [Z31]
   rfl
 rw [ek] at ff
 have ad:bB (.tup [.non]) (.tup (sh.map ac))=some (.tup (.non::sh.map ac)):=by
   show (if _ then _ else _)=_
   rw [if_pos (Z38 (bM (by simp; omega)))]
   rfl
 rcases ff with ⟨f1,f2⟩ | ⟨s,ρ2,⟨y,y1,y2,rfl⟩,f2⟩
 · left
   refine ⟨f1,?_⟩
   generalize sh.map ac=Sm at *
   apply Ev.fn (ρ:=[some (.d (.str (tx9 ls))),some (.d (.tup Sm)),none,none,none]) rfl
   unfold nB
   walk_at "ev"
 · right
   refine ⟨y,y1,y2,?_⟩
   generalize sh.map ac=Sm at *
   apply Ev.fn (ρ:=[some (.d (.str (tx9 ls))),some (.d (.tup Sm)),none,none,none]) rfl
   unfold nB
   walk_at "ev"
theorem yJ {ls:List Nat} {sh:List (Int × Int)} (fu:Fu (fe ls) 0 ls.length sh) (hp:∀ k ∈ kks sh,(df ls.length sh k).Pairwise fun p q=>lt9 ls p.1 ≠ lt9 ls q.1):FN (fe ls) 0 ls.length=1:=by
 have h:=fu.sh
 obtain ⟨_,rk⟩:=fu.rk
 have hm:∀ p ∈ sh,lt9 ls p.2=fl (lt9 ls p.1):=fun p hp=>of_decide_eq_true (rk.in2 p hp).2.2.2
 have gd:=B3 (L:=lt9 ls) (g:=fl) (by omega) h hm fu.all (fun o ho=>by
   have pw:=hp (some o) (Z8 _ (Z18.mpr ⟨o,ho,rfl⟩))
   have ij:=pc (f:=fun p:Int × Int=>lt9 ls p.1) pw
   refine ⟨fun p hp q hq e=>ij p (Z37 _ hp) q (Z37 _ hq) e,fun p hp e=>?_⟩
   injection e with e
   have:=ij (o.2,o.1) (Z36 _ (by simp)) p (Z37 _ hp) e
   have i0:=pf h hp
   have o0:=h.1 o ho
   rw [<- this] at i0
   dsimp only at i0
   omega) (by
   have ij:=pc (f:=fun p:Int × Int=>lt9 ls p.1) (hp none (by simp))
   exact ⟨fun p hp q hq e=>ij p hp q hq e,fun p _ e=>by cases e⟩)
 exact Gd.only (lt9 ls) fl2 (fun i j=>⟨of_decide_eq_true,decide_eq_true⟩) gd
theorem rY (l m:List (Int × Int)) (h:l ≠ m):eqD 4 true (.tup (l.map ac)) (.tup (m.map ac))=some (.bl true):=by
 have:D.depthL (l.map ac)<=3:=bm oQ l
 unfold eqD
 rw [if_pos (by simp only [D.depth]; omega)]
 simp only [D.eq,p7 yc]
 simp [h]
theorem ji {ls:List Nat} (hls:Ls ls) (hl:ls.length<=40) {sh:List (Int × Int)} (fu:Fu (fe ls) 0 ls.length sh) {wide:Bool} (hw:wide=true->∃ k ∈ kks sh,∃ m:Nat,(∀ x ∈ ls,x < m)/\m < (df ls.length sh k).length) :
   fP [.d (.str (tx9 ls)),.d (.tup (sh.map ac)),.d (.bl wide)]=some (.d (.bl true)):=by
 have wy:=yr hls hl
 have h:=fu.sh
 rcases vH hl fu with ⟨o1,o2⟩ | ⟨y,y1,y2,y3⟩
 · have f1:=yJ fu o1
   rw [f1] at wy
   have wf:wide=false:=by
     cases wide with
     | false=>rfl
     | true=>
       obtain ⟨k,hk,m,m1,m2⟩:=hw rfl
       have pw:=o1 k hk
       have nd:((df ls.length sh k).map fun p=>lt9 ls p.1).Nodup:=List.Pairwise.map _ (fun _ _ z=>z) pw
       have:=pd (m:=m) nd (fun x hx=>by
         obtain ⟨p,hp,rfl⟩:=Z18.mp hx
         have:=vG h (vF hk) p hp
         unfold lt9
         rw [Z5,Z3 (by omega)]
         exact m1 _ (List.getElem_mem _))
       rw [Z2] at this
       omega
   subst wf
   have iy:isY .non .non=some (.bl true):=rfl
   have e1:eqD 4 false (.int 1) (.int 1)=some (.bl true):=rfl
   generalize sh.map ac=Sm at *
   apply Ev.fn (ρ:=[some (.d (.str (tx9 ls))),some (.d (.tup Sm)),some (.d (.bl false)),none,none]) rfl
   unfold ja
   walk_at "ev"
   all_goals rfl
 · have two:=fu.two y2 (fun z=>y1 z.symm)
   obtain ⟨_,rk⟩:=y2.rk
   have fo:=yu hls hl rk
   have iy:isY (.tup (y.map ac)) .non=some (.bl false):=rfl
   have ne:=rY y sh y1
   have gt:gtD (.int (FN (fe ls) 0 ls.length)) (.int 1)=some (.bl true):=by
     show some (D.bl (decide (1 < FN (fe ls) 0 ls.length)))=_
     rw [decide_eq_true (by omega)]
   generalize FN (fe ls) 0 ls.length=F at *
   generalize sh.map ac=Sm at *
   generalize y.map ac=Ym at *
   apply Ev.fn (ρ:=[some (.d (.str (tx9 ls))),some (.d (.tup Sm)),some (.d (.bl wide)),none,none]) rfl
   unfold ja
   walk_at "ev"
   all_goals rfl
open PySem L2
local macro_rules | `(tactic| walk_at "evE")=>`(tactic| with_reducible apply Mir.Ev.maxC)
theorem zH (i j:Int):pR [.int i,.int j]=some (.int (max i j)):=by
 show some (D.int (if i < j then j else i))=_
 congr 2
 by_cases h:i < j
 · rw [if_pos h]; omega
 · rw [if_neg h]; omega
theorem zI (i j:Int):pQ [.int i,.int j]=some (.int (min i j)):=by
 show some (D.int (if j < i then j else i))=_
 congr 2
 by_cases h:j < i
 · rw [if_pos h]; omega
 · rw [if_neg h]; omega
theorem yK (l:List Int):cv (l.map D.int)=some l:=by
 induction l with
 | nil=>rfl
 | cons a l ih=>rw [Z6,cv,ih]; rfl
theorem gT:∀ (n:Int) (l:List Int),bA n l ∈ n::l
 | n,[]=>by show n ∈ _; simp
 | n,a::l=>by
   show bA (if a < n then a else n) l ∈ _
   rcases Z19.mp (gT (if a < n then a else n) l) with z | z
   · rw [z]; split <;> simp
   · simp [z]
theorem nI (n:Int) (l:List Int):cg n l ∈ n::l:=by
 unfold cg
 have:=gT (-n) (l.map fun x=>-x)
 rcases Z19.mp this with z | z
 · rw [z]; simp
 · obtain ⟨x,hx,e⟩:=Z18.mp z
   rw [<- e]; simp [hx]
theorem yL {n:Int} {sh:List (Int × Int)} {k:NK} (hk:k ∈ ba sh):∃ q ∈ kks sh,brd n sh k=((df n sh q).length:Int):=by
 rcases Z19.mp hk with rfl | hk
 · exact ⟨none,by simp,rfl⟩
 · obtain ⟨o,ho,rfl⟩:=Z18.mp hk
   refine ⟨some o,Z8 _ (Z18.mpr ⟨o,ho,rfl⟩),?_⟩
   show ((inner sh o.1 o.2).length:Int)+1=((inner sh o.1 o.2++[(o.2,o.1)]).length:Int)
   simp
theorem yM {n:Int} {sh:List (Int × Int)}:∃ k ∈ kks sh,xT ((fS n sh (ba sh)).map (·.2))=some ((df n sh k).length:Int):=by
 have e:(fS n sh (ba sh)).map (·.2)=((ba sh).map (brd n sh)).map D.int:=by
   unfold fS
   rw [Z31,Z31]
   rfl
 rw [e]
 have m:∀ x ∈ (ba sh).map (brd n sh),∃ q ∈ kks sh,x=((df n sh q).length:Int):=fun x hx=>by
   obtain ⟨k,hk,rfl⟩:=Z18.mp hx
   exact yL hk
 rw [Z6] at m ⊢
 rw [Z6]
 obtain ⟨q,hq,e2⟩:=m _ (nI (brd n sh none) ((sh.map kyO).map (brd n sh)))
 refine ⟨q,hq,?_⟩
 show (cv _).map _=_
 rw [yK,Option.map_some,e2]
theorem yN {k:Int} (h0:0<=k) (h1:k < 3):∃ n:Int,0 < n/\n<=21/\ixD (.lst [.int 4,.int 7,.int 21]) (.int k)=some (.int n):=by
 have hc:k=0∨k=1∨k=2:=by omega
 rcases hc with rfl | rfl | rfl
 · exact ⟨4,by decide,by decide,rfl⟩
 · exact ⟨7,by decide,by decide,rfl⟩
 · exact ⟨21,by decide,by decide,rfl⟩
theorem yO {k:Int} (h0:0<=k) (h1:k < 2):∃ n:Int,0 < n/\n<=13/\ixD (.lst [.int 4,.int 13]) (.int k)=some (.int n):=by
 have hc:k=0∨k=1:=by omega
 rcases hc with rfl | rfl
 · exact ⟨4,by decide,by decide,rfl⟩
 · exact ⟨13,by decide,by decide,rfl⟩
theorem rZ {α:Type} (l:List α):Ev.cw (fun _:α=>(none:Option S)) l=none:=by
 induction l with
 | nil=>rfl
 | cons a l ih=>unfold Ev.cw; exact ih
theorem nJ {ns:List Int} {ls:List Nat} {sh:List (Int × Int)} {c most:Int} (hc:0 < c/\c<=13) (hl:ls.length<=40) (h1:∀ x ∈ ls,(x:Int) < 2 * c) (fu:Fu (fe ls) 0 ls.length sh) {k:Option (Int × Int)} (hk:k ∈ kks sh) (hm:most=(df ls.length sh k).length) :
   let ρ:En:=[some (.scr ns),none,none,some (.d (.tup (sh.map ac))),some (.d (.int most)),some (.d (.int c)),some (.d (.str (tx9 ls))),none]
   bg (ah 7) dO ((ups 0 (2:Int).toNat).map D.int) ρ=some (.nx,[some (.scr ns),none,none,some (.d (.tup (sh.map ac))),some (.d (.int most)),some (.d (.int c)),some (.d (.str (tx9 ls))),some (.d (.int 1))]):=by
 have rt:=ji (fun x hx=>by have:=h1 x hx; omega) hl fu (wide:=decide (2 * c < most)) (fun z=>⟨k,hk,(2 * c).toNat,fun x hx=>by have:=h1 x hx; omega,by have:=of_decide_eq_true z; omega⟩)
 generalize sh.map ac=Sm at *
 have t:∀ (i:Int) (w:Option S),∃ ρ1,ah 7 (.int i) [some (.scr ns),none,none,some (.d (.tup Sm)),some (.d (.int most)),some (.d (.int c)),some (.d (.str (tx9 ls))),w]=some ρ1/\dO ρ1=some (.nx,[some (.scr ns),none,none,some (.d (.tup Sm)),some (.d (.int most)),some (.d (.int c)),some (.d (.str (tx9 ls))),some (.d (.int i))]):=fun i w=>by
   apply Ev.turn
   walk_at "ev"
   unfold dO
   walk_at "ev"
 exact (RunF.app (RunF.one (t 0 none)) (RunF.one (t 1 _))).run
theorem B9 (ns:List Int) (hns:ns.length<=63) {k:Int} (h0:0<=k) (h1:k < 5):cL [some (.scr ns),some (.d (.int k)),none,none,none,none,none,none]=some (.nx,[some (.scr ns),none,none,none,none,none,none,none]):=by
 obtain ⟨s,st⟩:=cy ns hns h0 (by omega)
 obtain ⟨w1,s1,a0,a1,t1⟩:=eG s (n:=3) (by decide) (by decide)
 obtain ⟨n,n0,n1,nx⟩:=yN a0 a1
 obtain ⟨h,s2,b0,b1,t2⟩:=eG s1 (n:=n) n0 (by omega)
 obtain ⟨sh,s3,fu,lf⟩:=o6 s2 (h:=h) ⟨b0,by omega⟩
 have hsh:=fu.sh
 obtain ⟨_,rk⟩:=fu.rk
 have hlen:=rk.len
 have bo:=nH hsh (by omega)
 obtain ⟨kk,hk,mx⟩:=yM (n:=2 * h) (sh:=sh)
 obtain ⟨w3,s4,c0,c1,t3⟩:=eG s3 (n:=2) (by decide) (by decide)
 obtain ⟨n2,d0,d1,nx2⟩:=yO c0 c1
 obtain ⟨w4,s5,e0,e1,t4⟩:=eG s4 (n:=n2) d0 (by omega)
 obtain ⟨w5,s6,g0,g1,t5⟩:=eG s5 (n:=2) (by decide) (by decide)
 obtain ⟨most,em⟩:∃ m:Int,m=((df (2 * h) sh kk).length:Int):=⟨_,rfl⟩
 rw [<- em] at mx
 have q1:=vh (i:=most - 1) (j:=2) (by decide) (by decide)
 have q2:=zI 13 ((most - 1) / 2)
 have q3:=zH 1 (min 13 ((most - 1) / 2))
 by_cases hz:w5=0
 · have e6:eqD 4 false (.int w5) (.int 0)=some (.bl true):=by rw [x8,decide_eq_true hz]
   obtain ⟨ls,s7,l1,l2,l3,co⟩:=jf s6 (c:=max 1 (min 13 ((most - 1) / 2))) fu (by omega) ⟨by omega,by omega⟩
   rw [<- l2] at em
   have tw:=nJ (ns:=ns) (ls:=ls) (sh:=sh) (c:=max 1 (min 13 ((most - 1) / 2))) (most:=most) ⟨by omega,by omega⟩ (by omega) l1 l3 hk em
   dsimp only at tw
   generalize max 1 (min 13 ((most - 1) / 2))=c at *
   generalize fS (2 * h) sh (ba sh)=due at *
   generalize sh.map ac=Sm at *
   generalize tx9 ls=T1 at *
   unfold cL
   walk_at "ev"
 · have e6:eqD 4 false (.int w5) (.int 0)=some (.bl false):=by rw [x8,decide_eq_false hz]
   obtain ⟨ls,s7,l1,l2,l3,co⟩:=jf s6 (c:=1+w4) fu (by omega) ⟨by omega,by omega⟩
   rw [<- l2] at em
   have tw:=nJ (ns:=ns) (ls:=ls) (sh:=sh) (c:=1+w4) (most:=most) ⟨by omega,by omega⟩ (by omega) l1 l3 hk em
   dsimp only at tw
   generalize fS (2 * h) sh (ba sh)=due at *
   generalize sh.map ac=Sm at *
   generalize tx9 ls=T1 at *
   unfold cL
   walk_at "ev"
theorem D9:tx9 [0,1]=("ab":Str):=by decide +kernel
theorem Ea:tx9 []=("":Str):=by decide +kernel
theorem vI (ns:List Int) (hns:ns.length<=63):zE [.scr ns]=some (.d (.bl true)):=by
 have mn:=zI 5 (ns.length:Int)
 have mx:=zH 3 (min 5 (ns.length:Int))
 have lo:bg (ah 1) cL ((ups 0 (max 3 (min 5 (ns.length:Int))).toNat).map D.int) [some (.scr ns),none,none,none,none,none,none,none]=some (.nx,[some (.scr ns),none,none,none,none,none,none,none]):=by
   refine (Ev.i7 (c:=fun _=>none) (fun a ha=>?_)).2 (rZ _)
   obtain ⟨a0,a1⟩:=lF ha
   exact ⟨_,rfl,B9 ns hns (by omega) (by omega)⟩
 have r0:fP [.d (.str ("":Str)),.d (.tup []),.d (.bl false)]=some (.d (.bl true)):=by
   rw [<- Ea]
   exact ji (ls:=[]) (fun x hx=>by cases hx) (by decide) (sh:=[]) (.nil 0) (fun z=>by cases z)
 have r1:fP [.d (.str ("ab":Str)),.d (.tup [.tup [.int 0,.int 1]]),.d (.bl false)]=some (.d (.bl true)):=by
   rw [<- D9]
   exact ji (ls:=[0,1]) (fun x hx=>by simp at hx; omega) (by decide) (sh:=[(0,1)]) (.hoop (j:=1) (p:=[]) (q:=[]) (by decide) (by decide) (by decide) (.nil 1) (.nil 2)) (fun z=>by cases z)
 apply Ev.fn (ρ:=[some (.scr ns),none,none,none,none,none,none,none]) rfl
 unfold lP
 walk_at "ev"
end Mir
set_option maxHeartbeats 8000000
open PySem PySem.Spec PyProof.Rows L2
namespace My
open PySem L2
noncomputable def top (i:Nat):Stmt:=PySem.Challenge.pw_hoopcord_k64_whole_another_full_shape.main.body.getD i (.Pass ⟨0,0,0,0⟩)
noncomputable abbrev r8:Stmt:=top 2
noncomputable abbrev r9:Stmt:=top 4
noncomputable abbrev sd:Stmt:=top 6
noncomputable abbrev se:Stmt:=top 7
noncomputable abbrev sf:Stmt:=top 8
noncomputable abbrev sg:Stmt:=top 9
noncomputable abbrev si:Stmt:=top 11
noncomputable abbrev sj:Stmt:=top 12
noncomputable abbrev sk:Stmt:=top 13
noncomputable abbrev sn:Stmt:=top 14
noncomputable abbrev kA:Stmt:=top 15
noncomputable abbrev kB:Stmt:=top 16
noncomputable abbrev kC:Stmt:=top 17
noncomputable abbrev kD:Stmt:=top 18
noncomputable abbrev kE:Stmt:=top 19
noncomputable abbrev kF:Stmt:=top 20
noncomputable abbrev kG:Stmt:=top 21
noncomputable abbrev fT:Stmt:=top 22
local macro_rules | `(tactic| walk_at "h ip")=>`(tactic| first | exact Ac | exact ip_sub)
local macro_rules | `(tactic| walk_at "h pv")=>Mir.txn 24 "E pv @"
local macro_rules | `(tactic| walk_at "h pgn")=>Mir.txn 24 "E kJ i= @) ! rfl <h loc>"
local macro_rules | `(tactic| walk_at "h pgt")=>Mir.txn 7 "R pG n= @) ! rfl ?p1 rfl"
local macro_rules | `(tactic| walk_at "h sc1")=>Mir.txn 24 "R ps_setComp1 i= @) rfl {rfl rfl rfl rfl rfl} ?p1 rfl (bQ rfl) ?p2 ?p3 ! rfl rfl; C p2 I; C p3 I"
local macro_rules | `(tactic| walk_at "h sct")=>Mir.txn 24 "R ps_setCompT2 i= @) rfl {rfl rfl rfl rfl rfl} ?p1 ?p0 ?p2 ?p3 ! rfl rfl; C p0 I; C p2 I; C p3 I"
local macro_rules | `(tactic| walk_at "h par")=>Mir.txn 144 "R Aa i= &) j= ^) rfl ! rfl rfl % rfl rfl ?p1 rfl"
local macro_rules | `(tactic| walk_at "h aug")=>Mir.txn 24 "R Ab i= @) ! rfl <h loc> ?p1 <h ip>"
local macro_rules | `(tactic| walk_at "h add")=>`(tactic| exact wI (by assumption))
local macro_rules | `(tactic| walk_at "h mul")=>`(tactic| exact wY)
local macro_rules | `(tactic| walk_at "h lt")=>`(tactic| exact By (n:=4) (by assumption) (by walk_at "h un4"))
local macro_rules | `(tactic| walk_at "h ix")=>`(tactic| exact AO (by assumption) (My.un4 (n:=1) (by assumption)))
local macro_rules | `(tactic| walk_at "h set")=>`(tactic| exact wD (My.un4 (n:=1) (by assumption)))
local macro_rules | `(tactic| walk_at "h room")=>`(tactic| first | exact Room.mono (by assumption) (by decide) | exact Room.mono (by assumption) (by omega))
local macro_rules | `(tactic| walk_at "h un4")=>`(tactic| exact My.un4 (by assumption))
local macro_rules | `(tactic| walk_at "h pa")=>`(tactic| first
 | ((with_reducible show PA _ [] _); exact Ak)
 | (refine' vS ?p1 ?p2))
local macro_rules | `(tactic| walk_at "h opB")=>Mir.tx ["G OpR _ (binaryOp Operator.Add) _; W h add",
 "G OpR _ (binaryOp Operator.Mult) _; W h mul",
 "q wm",
 "q wj",
 "q op_divA",
 "q op_powA"]
local macro_rules | `(tactic| walk_at "h opC")=>Mir.tx ["G OpR _ (compareOp CmpOp.Eq) _; E AG n= 4) ! <h un4>",
 "G OpR _ (compareOp CmpOp.NotEq) _; E AH n= 3) ! <h un4>",
 "G OpR _ (compareOp CmpOp.In) _; W h opIn",
 "G OpR _ (compareOp CmpOp.NotIn) _; W h opNotIn",
 "G OpR _ (compareOp CmpOp.Lt) _; W h lt",
 "q tH",
 "q op_leA",
 "q AC",
 "q op_geA",
 "q pF",
 "q mv"]
local macro_rules | `(tactic| walk_at "h opIn")=>`(tactic| exact Mir.op_inY (n:=4) (by assumption) (My.un5 (by assumption)))
local macro_rules | `(tactic| walk_at "h opNotIn")=>`(tactic| walk_at "h opNI")
local macro_rules | `(tactic| walk_at "h mark")=>`(tactic| first | exact Ah _ | (with_unfolding_all rfl))
local macro_rules | `(tactic| walk_at "h bcall")=>Mir.tx ["G PE _ (Expr.Call (Expr.Name (Str.ofString 'len') _) [(Expr.Call (Expr.Name (Str.ofString 'set') _) _ _ _)] _ _) _; R Mir.pe_lenSet ! rfl rfl ! rfl ! ?p1",
 "G PE _ (Expr.Call (Expr.Name (Str.ofString 'len') _) _ _ _) _; R bb (qK !) rfl ! PySem.boot_len ?p1",
 "G PE _ (Expr.Call (Expr.Name (Str.ofString 'range') _) [_] _ _) _; R pe_range1 rfl ! ?p1",
 "G PE _ (Expr.Call (Expr.Name (Str.ofString 'range') _) [_ _] _ _) _; R pe_range2 rfl ! ?p1",
 "G PE _ (Expr.Call (Expr.Name (Str.ofString 'sorted') _) _ _ _) _; R bb (Srt.oH !) rfl ! PyProof.Rows.boot_sorted ?p1",
 "G PE _ (Expr.Call (Expr.Name (Str.ofString 'abs') _) _ _ _) _; R bb call_absA rfl ! PyProof.Rows.boot_abs ?p1",
 "G PE _ (Expr.Call (Expr.Name (Str.ofString 'sum') _) _ _ _) _; R bb (call_sumK ! rfl) rfl ! PyProof.Rows.boot_sum ?p1",
 "G PE _ (Expr.Call (Expr.Name (Str.ofString 'isinstance') _) _ _ _) _; R bb (qL !) rfl ! PyProof.Rows.boot_isinstance ?p1",
 "G PE _ (Expr.Call (Expr.Name (Str.ofString 'list') _) _ _ _) _; R fX <h list> rfl ! PyProof.Rows.boot_list ?p1",
 "G PE _ (Expr.Call (Expr.Name (Str.ofString 'tuple') _) _ _ _) _; R fX <h tuple> rfl ! PyProof.Rows.boot_tuple ?p1",
 "G PE _ (Expr.Call (Expr.Name (Str.ofString 'all') _) _ _ _) _; R bb (call_allK ! rfl) rfl ! PyProof.Rows.boot_all ?p1",
 "G PE _ (Expr.Call (Expr.Name (Str.ofString 'int') _) _ _ _) _; R fX qJ rfl ! PyProof.Rows.boot_int ?p1",
 "G PE _ (Expr.Call (Expr.Name (Str.ofString 'divmod') _) [_ _] _ _) _; R bb Mir.call_divmodX rfl ! PyProof.Rows.boot_divmod ?p1",
 "G PE _ (Expr.Call (Expr.Name (Str.ofString 'min') _) [_ _] _ _) _; R bb (oA rfl) rfl ! PyProof.Rows.boot_min ?p1",
 "G PE _ (Expr.Call (Expr.Name (Str.ofString 'max') _) [_ _] _ _) _; R bb (oB rfl) rfl ! PyProof.Rows.boot_max ?p1"]
local macro_rules | `(tactic| walk_at "h list")=>`(tactic| exact call_listX (by assumption) rfl)
local macro_rules | `(tactic| walk_at "h tuple")=>`(tactic| exact qY (by assumption) rfl)
local macro_rules | `(tactic| walk_at "h bty")=>Mir.tx ["G PE _ (Expr.Name (Str.ofString 'int') _) _; E fv v= (.ty 'int')) rfl ! PyProof.Rows.boot_int rfl",
 "G PE _ (Expr.Name (Str.ofString 'bool') _) _; E fv v= (.ty 'bool')) rfl ! PyProof.Rows.boot_bool rfl",
 "G PE _ (Expr.Name (Str.ofString 'str') _) _; E fv v= (.ty 'str')) rfl ! PyProof.Rows.boot_str rfl",
 "G PE _ (Expr.Name (Str.ofString 'list') _) _; E fv v= (.ty 'list')) rfl ! PyProof.Rows.boot_list rfl",
 "G PE _ (Expr.Name (Str.ofString 'tuple') _) _; E fv v= (.ty 'tuple')) rfl ! PyProof.Rows.boot_tuple rfl"]
local macro_rules | `(tactic| walk_at "h comp")=>Mir.tx ["G PE _ (Expr.ListComp _ [{(Expr.Tuple _ _ _) _ _ _}] _ _) _; R q9 rfl {rfl rfl rfl rfl rfl} ?p1 ?p0 ?p2 ?p3; C p0 I; C p2 I; C p3 I",
 "G PE _ (Expr.ListComp _ [_] _ _) _; R pe_comp1 rfl {rfl rfl rfl rfl rfl} ?p1 rfl (bQ rfl) ?p2 ?p3; C p2 I; C p3 I",
 "G PE _ (Expr.ListComp _ [_ _] _ _) _; R pe_comp2 rfl {rfl rfl rfl rfl rfl} ?p1 rfl rfl (bQ rfl) ?p2 ?p3 ?p4 ?p5; C p2 I; C p3 I; C p4 I; C p5 I"]
local macro_rules | `(tactic| walk_at "h pif")=>`(tactic| first | ((with_reducible show PIf _ [] _); exact pif_nil) | (refine' wc ?p1))
local macro_rules | `(tactic| walk_at "h pe")=>Mir.tx ["G PE _ (Expr.Constant _ _ _) _; q zO",
 "G PE _ (Expr.Constant _ _ _) _; q zQ",
 "G PE _ (Expr.Constant _ _ _) _; q Cl",
 "G PE _ (Expr.Constant _ _ _) _; q zP",
 "G PE _ (Expr.Name _ _) _; W h pv",
 "G PE _ (Expr.Name _ _) _; W h bty",
 "G PE _ (Expr.Name _ _) _; W h glob",
 "G PE _ (Expr.Call (Expr.Name _ _) _ _ _) _; W h bcall",
 "G PE _ (Expr.Call (Expr.Name _ _) _ _ _) _; R tE ! <h room> rfl ?p1",
 "G PE _ (Expr.Call (Expr.Attribute _ (Str.ofString 'join') _) _ _ _) _; R oD ! PySem.F.plainAttrs_str PySem.F.slot_str_join PySem.F.type_str_join (ww !) ?p1 ?p2",
 "G PE _ (Expr.Call (Expr.Attribute _ (Str.ofString 'pop') _) [] _ _) _; R pS ! PySem.F.plainAttrs_list PySem.F.slot_list_pop PySem.F.type_list_pop At ?p1",
 "G PE _ (Expr.BinOp _ _ _ _) _; R sC <h opB> ?p1 ?p2",
 "G PE _ (Expr.Subscript _ _ _) _; W h slice",
 "G PE _ (Expr.Subscript _ _ _) _; R CD <h ix> ?p1 ?p2 \\",
 "G PE _ (Expr.Tuple _ _ _) _; R Al ?p1",
 "G PE _ (Expr.Dict [] [] _) _; E tQ",
 "G PE _ (Expr.Dict [(some _)] [_] _) _; R pe_dOne (My.un4 n= 1) !) ?p1 ?p2",
 "G PE _ (Expr.List _ _) _; R Am ?p1",
 "G PE _ (Expr.Compare _ [_] _ _) _; R vP <h opC> ?p1 ?p2 <h mark>",
 "G PE _ (Expr.Compare _ [_ _] _ _) _; R pe_chain <h opC> <h opC> ?p1 ?p2 ?p3",
 "G PE _ (Expr.UnaryOp UnaryOp.USub _ _) _; R Ct nQ ?p1",
 "G PE _ (Expr.UnaryOp UnaryOp.Not _ _) _; R zW ?p1",
 "G PE _ (Expr.ListComp _ _ _ _) _; W h comp",
 "G PE _ (Expr.BoolOp BoolOp.And (List.cons _ (List.cons _ _)) _) _; R zV ?p1 ?p2",
 "G PE _ (Expr.BoolOp BoolOp.Or (List.cons _ (List.cons _ _)) _) _; R pe_or ?p1 ?p2",
 "G PE _ (Expr.BoolOp _ [_] _) _; R zU ?p1",
 "G PE _ (Expr.IfExp _ _ _ _) _; R pe_ifExp ?p1 ?p2 ?p3"]
local macro_rules | `(tactic| walk_at "h pt")=>Mir.tx ["G PT _ (Expr.UnaryOp UnaryOp.Not _ _) _; R zT ?p1",
 "G PT _ (Expr.BoolOp _ _ _) _; R PW.pt ?p1",
 "G PT _ (Expr.Compare _ [_] _ _) _; R vQ <h opC> ?p1 ?p2 <h mark>",
 "G PT _ (Expr.Compare _ [_ _] _ _) _; R pt_chain <h opC> <h opC> ?p1 ?p2 ?p3",
 "G PT _ (Expr.Compare _ [_ _ _] _ _) _; R qM <h opC> <h opC> <h opC> ?p1 ?p2 ?p3 ?p4",
 "R Bp ! ?p1"]
local macro_rules | `(tactic| walk_at "h pw")=>Mir.tx ["G PW _ (Expr.BoolOp BoolOp.And (List.cons _ (List.cons _ _)) _) _; R zS ?p1 ?p2",
 "G PW _ (Expr.BoolOp BoolOp.Or (List.cons _ (List.cons _ _)) _) _; R Cp ?p1 ?p2",
 "G PW _ (Expr.BoolOp BoolOp.And [_] _) _; R vL ?p1",
 "G PW _ (Expr.BoolOp BoolOp.Or [_] _) _; R zR ?p1"]
local macro_rules | `(tactic| walk_at "h pi")=>Mir.tx ["G PI _ _ (Expr.Call (Expr.Name (Str.ofString 'range') _) [_] _ _) _; R qu rfl ! ?p1",
 "G PI _ _ (Expr.Call (Expr.Name (Str.ofString 'range') _) [_ _] _ _) _; R pi_range2 rfl ! ?p1",
 "G PI _ _ (Expr.Call (Expr.Name (Str.ofString 'range') _) [_ _ _] _ _) _; R Mir.rB rfl ! ?p1",
 "G PI _ _ (Expr.Call (Expr.Name (Str.ofString 'reversed') _) [_] _ _) _; R pi_rev rfl ! ?p1",
 "G PI _ _ (Expr.Call (Expr.Name (Str.ofString 'enumerate') _) [_] _ _) _; R pi_enu rfl ! ?p1",
 "G PI _ _ (Expr.Call (Expr.Name (Str.ofString 'zip') _) [_ _] _ _) _; R pi_zip ! rfl ! ?p1",
 "R wu ! ?p1"]
local macro_rules | `(tactic| walk_at "h loc")=>`(tactic| first | exact Or.inl rfl | exact Or.inr rfl)
local macro_rules | `(tactic| walk_at "h pg")=>Mir.tx ["G PG _ (Expr.Tuple _ _ _) _; W h pgt",
 "G PG _ (Expr.Subscript _ _ _) _; R z8 ?p1 ?p2 <h set>",
 "W h pgn"]
local macro_rules | `(tactic| walk_at "h pgs")=>`(tactic| first | ((with_reducible show PGs _ [] _); exact pk) | (refine' lY ?p1 ?p2))
local macro_rules | `(tactic| walk_at "h ps")=>Mir.tx ["G PS _ (Stmt.Return (some _) _) _; R zX ?p1",
 "G PS _ (Stmt.Raise _ _ _) _; E ps_never",
 "G PS _ (Stmt.Return none _) _; E ps_retN",
 "G PS _ (Stmt.If _ _ _ _) _; R Cq ?p1 ?p2 ?p3",
 "G PS _ (Stmt.For _ _ _ _ _) _; R Ae PassesOwn.never rfl ?p1 ?p2 ?p3",
 "G PS _ (Stmt.Assign [(Expr.Name _ _)] (Expr.ListComp _ [{(Expr.Name _ _) _ _ _}] _ _) _) _; W h sc1",
 "G PS _ (Stmt.Assign [(Expr.Name _ _)] (Expr.ListComp _ [{(Expr.Tuple _ _ _) _ _ _}] _ _) _) _; W h sct",
 "G PS _ (Stmt.Assign [(Expr.Tuple [_ _] _ _)] (Expr.Tuple [_ _] _ _) _) _; W h par",
 "G PS _ (Stmt.AugAssign (Expr.Name _ _) _ _ _) _; W h aug",
 "G PS _ (Stmt.While _ _ _ _) _; R sA PassesOwn.never ?p1 ?p2",
 "G PS _ (Stmt.Pass _) _; E ps_pass",
 "G PS _ (Stmt.Break _) _; E ps_break",
 "G PS _ (Stmt.Continue _) _; E ps_continue",
 "G PS _ (Stmt.Assign [_] _ _) _; R z9 ?p1 ?p2",
 "G PS _ (Stmt.Expr _ _) _; W h stex"]
local macro_rules | `(tactic| walk_at "h stex")=>Mir.tx ["G PS _ (Stmt.Expr (Expr.Call (Expr.Attribute _ (Str.ofString 'extend') _) _ _ _) _) _; R gW (oD ! PySem.F.plainAttrs_list PySem.F.slot_list_extend PySem.F.type_list_extend mt_extend ?p1 ?p2)",
 "G PS _ (Stmt.Expr (Expr.Call (Expr.Attribute _ (Str.ofString 'append') _) _ _ _) _) _; R gW (oD ! PySem.F.plainAttrs_list PySem.F.slot_list_append PySem.F.type_list_append qB ?p1 ?p2)",
 "G PS _ (Stmt.Expr (Expr.Call (Expr.Attribute _ (Str.ofString 'reverse') _) _ _ _) _) _; R gW (pS ! PySem.F.plainAttrs_list PySem.F.slot_list_reverse PySem.F.type_list_reverse mt_reverse ?p1)",
 "R gW ?p1"]
local macro_rules | `(tactic| walk_at "h pss")=>Mir.tx ["G PSs _ [] _; E vM",
 "G PSs _ [_] _; R vN ?p1",
 "G PSs _ (List.cons _ _) _; R su ?p1 ?p2"]
local macro_rules | `(tactic| walk_at "h opNI")=>`(tactic| exact Mir.op_notInY (n:=4) (by assumption) (My.un5 (by assumption)))
local macro_rules | `(tactic| walk_at "h glob")=>`(tactic| first | (refine' kI (v:=.int _) rfl ?gm ?gr; (case gm=>assumption); (case gr=>exact ⟨_,rfl⟩)) | (refine' kI (v:=.str _) rfl ?gm ?gr; (case gm=>assumption); (case gr=>exact ⟨_,rfl⟩)))
local macro_rules | `(tactic| walk_at "h po")=>`(tactic| first | exact vW | (refine' vX ?p1))
local macro_rules | `(tactic| walk_at "h slice")=>Mir.tx ["G PE _ (Expr.Subscript _ (Expr.Slice _ _ none _) _) _; R mf (uc !) ?p1 ?p2 ?p3"]
local macro_rules | `(tactic| walk_at "h pgc")=>`(tactic| (refine' pG (by assumption) rfl ?p1))
local macro_rules | `(tactic| walk_at "h pgcs")=>`(tactic| first | ((with_reducible show PGs _ [] _); exact pk) | (refine' lY ?p1 ?p2))
local macro_rules | `(tactic| walk_at "h pgc1")=>Mir.tx ["E kJ i= 0) (bQ rfl) rfl <h loc>",
 "E kJ i= 1) (bQ rfl) rfl <h loc>"]
local macro_rules | `(tactic| walk_at "h1")=>Mir.tx ["G PE _ _ _; W h pe",
 "G PT _ _ _; W h pt",
 "G PW _ _ _; W h pw",
 "G PA _ _ _; W h pa",
 "G PSs _ _ _; W h pss",
 "G PS _ _ _; W h ps",
 "G PI _ _ _ _; W h pi",
 "G PG _ _ _; W h pg",
 "G PG _ _ _; W h pgc",
 "G PG _ _ _; W h pgc1",
 "G PGs _ _ _; W h pgs",
 "G PGs _ _ _; W h pgcs",
 "G PO _ _ _; W h po",
 "G PIf _ _ _; W h pif"]
local macro_rules | `(tactic| walk_at "h all")=>`(tactic| repeat' (walk_at "h1"))
local macro_rules | `(tactic| walk_at "m ia")=>`(tactic| (walk_at "m i"; walk_at "m all"))
local macro_rules | `(tactic| walk_at "m op")=>do
   let a0 <- Mir.als `Mir "nN nO op_mulXA nP op_div op_pow xB op_ltXA tW C9 kM gX xp op_inYA xD xE Bz xF"
   `(tactic| first | (first $[| $a0]*))
local macro_rules | `(tactic| walk_at "m cb")=>do
   let a0 <- Mir.als `Mir "A7 cb_lenSet cb_abs cb_sum A8 cb_listX w9 cb_all cb_divmod wZ w6"
   let a1 <- Mir.als `Srt "cb_sort"
   `(tactic| first | (first $[| $a0]*) | (first $[| $a1]*))
local macro_rules | `(tactic| walk_at "m ow")=>`(tactic| first | exact Or.inl rfl | exact Or.inr rfl)
local macro_rules | `(tactic| walk_at "m a")=>Mir.tx ["q Mir.AU",
 "Q Mir.wE ?p1 ?p2"]
local macro_rules | `(tactic| walk_at "m o")=>`(tactic| first
 | with_reducible exact Mir.Dh
 | ((with_reducible refine' Mir.xa ?p1)))
local macro_rules | `(tactic| walk_at "m e")=>do
   let a <- Mir.als `Mir "AQ AR AS C2 AT xq le_callIx le_dIn AV AW le_sl xb uk le_callF le_callX wF le_orV wG le_if"
   let b <- Mir.tx ["Q Mir.C3 ?o ?p1 ?p2; C o m op",
 "Q Mir.xr ?o ?p1; C o rfl",
 "Q Mir.xf ?o; C o rfl",
 "Q Mir.C4 Mir.nQ ?p1",
 "Q Mir.A9 ?o ?p1; C o %",
 "Q Mir.C5 ?o ?p1; C o m cb",
 "Q Mir.t8 ?o ?p1; C o m ow",
 "Q Mir.le_extend ?o ?p1; C o m ow",
 "Q Mir.qU ?o ?p1; C o m ow",
 "Q Mir.Bd ?o; C o m ow",
 "Q Mir.le_reverse ?o; C o m ow",
 "Q Mir.le_chain ?o ?o2 ?p1 ?p2 ?p3; C o m op; C o2 m op",
 "R Mir.uo ?q0 ?q1 ?q2 ?q3 ?c1 ?c2 ?c3 ?c4; C q0 rfl; C q1 %; C q2 %; C c1 m ia; C q3 m lj"]
   `(tactic| first | (first $[| $a]*) | $b:tactic)
local macro_rules | `(tactic| walk_at "m lj")=>`(tactic| first | (intro j h; cases h; done) | (intro j h; cases h; decide))
local macro_rules | `(tactic| walk_at "m t")=>do
   let a <- Mir.als `Mir "lt_yes AX C7 AY xc Bs C6"
   let b <- Mir.tx ["Q Mir.qQ ?o ?o2 ?o3 ?p1 ?p2 ?p3 ?p4; C o m op; C o2 m op; C o3 m op"]
   `(tactic| first | (first $[| $a]*) | $b:tactic)
local macro_rules | `(tactic| walk_at "m i")=>do
   let a <- Mir.als `Mir "wO li_rng2 xH li_dwn1 li_enu Bj"
   let b <- Mir.tx ["Q Mir.li_lk ?o; C o rfl",
 "Q Mir.li_own ?o; C o %"]
   `(tactic| first | (first $[| $a]*) | $b:tactic)
local macro_rules | `(tactic| walk_at "m de")=>`(tactic| (unfold Mir.de; decide))
local macro_rules | `(tactic| walk_at "m g")=>Mir.tx ["Q Mir.kX ?o ?q; C o rfl; C q m de",
 "Q Mir.lg_own ?o ?q; C o rfl; C q m de",
 "G Mir.LG _ _ _ (lZ _ _ _) _; R Mir.tZ ?p1",
 "Q Mir.xt ?o ?p1; C o m ow",
 "Q Mir.xu ?o ?p1; C o m ow",
 "Q Mir.lg_dputN ?o ?p1; C o m ow"]
local macro_rules | `(tactic| walk_at "m gs")=>Mir.tx ["q Mir.pK",
 "Q Mir.mJ ?p1 ?p2"]
local macro_rules | `(tactic| walk_at "m gc")=>Mir.tx ["Q Mir.kX ?o ?q; C o rfl; C q %",
 "G Mir.LG _ _ _ (lZ _ _ _) _; R Mir.tZ ?p1"]
local macro_rules | `(tactic| walk_at "m gcs")=>Mir.tx ["q Mir.pK",
 "Q Mir.mJ ?p1 ?p2"]
local macro_rules | `(tactic| walk_at "m b")=>`(tactic| first
 | (refine' Mir.wQ ?p1)
 | (refine' Mir.lb_in ?p1 ?p2 ?p3 ?p4))
local macro_rules | `(tactic| walk_at "m n")=>do
   let a <- Mir.als `Mir "Be xx ul"
   let b <- Mir.tx ["Q Mir.ln_stream ?o; C o rfl",
 "Q Mir.zt Mir.Bt ?p1 ?p2",
 "Q Mir.zt Mir.on_add ?p1 ?p2",
 "R Mir.ln_compE ?q0 ?q1 ?q2 ?q3 ?c1 ?c2 ?c3 ?c4; C q0 rfl; C q1 %; C q2 %; C c1 m ia; C q3 m lj"]
   `(tactic| first | (first $[| $a]*) | $b:tactic)
local macro_rules | `(tactic| walk_at "m s")=>do
   let a <- Mir.als `Mir "wK ls_retNone ls_brk ls_ct xo Ba Db ls_never Bb qT xz Bc wL Bl"
   let b <- Mir.tx ["Q Mir.wM ?o ?p1; C o rfl",
 "Q Mir.ls_asgD1 ?o ?o2 ?p1 ?p2; C o rfl; C o2 rfl",
 "Q Mir.ls_asgDc ?o ?p1; C o rfl",
 "Q Mir.ls_retDV ?o; C o rfl",
 "Q Mir.wN ?o; C o rfl",
 "Q Mir.ls_retF ?o ?p1; C o !",
 "Q Mir.ls_forL ?o ?p2 ?p3; C o rfl",
 "Q Mir.t9 _ ?p1 ?p2",
 "Q Mir.Bu ?o ?o2 ?p1; C o rfl; C o2 rfl",
 "Q Mir.Bv ?o ?p1; C o rfl"]
   `(tactic| first | (first $[| $a]*) | $b:tactic)
local macro_rules | `(tactic| walk_at "m x")=>do
   let a <- Mir.als `Mir "lx_args lx_op lx_dc"
   let b <- Mir.tx []
   `(tactic| first | (first $[| $a]*) | $b:tactic)
local macro_rules | `(tactic| walk_at "m1")=>Mir.tx ["G Mir.LX _ _ _ _; W m x",
 "G Mir.LE _ _ _ _; W m e",
 "G Mir.LT _ _ _ _; W m t",
 "G Mir.LA _ _ _ _; W m a",
 "G Mir.LS _ _ _ _; W m s",
 "G Mir.LI _ _ _ _ _; W m i",
 "G Mir.LG _ _ _ _ _; W m g",
 "G Mir.LG _ _ _ _ _; W m gc",
 "G Mir.LGs _ _ _ _ _; W m gs",
 "G Mir.LO _ _ _ _; W m o",
 "G Mir.LB _ _ _ _ _; W m b",
 "G Mir.LN _ _ _ _; W m n"]
local macro_rules | `(tactic| walk_at "m all")=>`(tactic| repeat' (walk_at "m1"))
local macro_rules | `(tactic| walk_at "h glob")=>`(tactic| first | exact kI (v:=.int (-1)) rfl (by assumption) ⟨_,rfl⟩)
local macro_rules | `(tactic| walk_at "h pi")=>Mir.tx ["G PI _ _ (Expr.Name (Str.ofString 'rings') _) _; R ze ?p1","G PI _ _ (Expr.Name (Str.ofString 'due') _) _; R ze ?p1"]
local macro_rules | `(tactic| walk_at "m i")=>Mir.tx ["G Mir.LI _ _ _ _ (Mir.oP _); E Mir.Dw"]
local macro_rules | `(tactic| walk_at "m s")=>Mir.tx ["G Mir.LS _ _ _ (Mir.j7 _); E Mir.xR rfl","G Mir.LS _ _ _ (Mir.gC _ _ _); R Mir.uP rfl ?p1"]
local macro_rules | `(tactic| walk_at "m e")=>Mir.tx ["G Mir.LE _ _ _ (Mir.j6 _ _); R Mir.xP ?p1","G Mir.LE _ _ _ (Mir.rD _ _ _); R Mir.BE ?p1 ?p2 ?p3"]
local macro_rules | `(tactic| walk_at "m g")=>Mir.tx ["G Mir.LG _ _ _ _ (Mir.gB _ _); R Mir.xQ <m ow> ?p1"]
local macro_rules | `(tactic| walk_at "m n")=>Mir.tx ["G Mir.LN _ _ _ Mir.lA; E Mir.xO"]
local macro_rules | `(tactic| walk_at "h opB")=>Mir.tx ["G OpR _ (binaryOp Operator.FloorDiv) _; E Mir.uE","G OpR _ (binaryOp Operator.Mult) _; E Mir.uD"]
local macro_rules | `(tactic| walk_at "h opC")=>Mir.tx ["G OpR _ (compareOp CmpOp.Is) _; E Mir.xC","G OpR _ (compareOp CmpOp.IsNot) _; E Mir.uF"]
local macro_rules | `(tactic| walk_at "h pe")=>Mir.tx ["G PE _ (Expr.Dict [(some (Expr.Constant _ _ _))] [_] _) _; R tS (My.un4 n= 1) !) ?p1 ?p2","G PE _ (Expr.BinOp (Expr.List _ _) Operator.Mult _ _) _; R sC <h mul> ?p1 ?p2"]
local macro_rules | `(tactic| walk_at "h bcall")=>Mir.tx ["G PE _ (Expr.Call (Expr.Name (Str.ofString 'max') _) [_] _ _) _; R bb (rC rfl) rfl ! PyProof.Rows.boot_max ?p1"]
local macro_rules | `(tactic| walk_at "h pe")=>Mir.tx ["G PE _ (Expr.Call (Expr.Attribute _ (Str.ofString 'values') _) [] _ _) _; R xI ?p1"]
local macro_rules | `(tactic| walk_at "m e")=>Mir.tx ["G Mir.LE _ _ _ (Mir.mMaxV _); E Mir.le_maxV","G Mir.LE _ _ _ (Mir.ke _ _); R Mir.xU ?p1","G Mir.LE _ _ _ (Mir.mNIn _ _); R Mir.le_nIn ?p1"]
local macro_rules | `(tactic| walk_at "h pi")=>Mir.tx ["G PI _ _ (Expr.Call (Expr.Name (Str.ofString 'enumerate') _) [_] _ _) _; R uK ! rfl ! ?p1"]
local macro_rules | `(tactic| walk_at "m i")=>Mir.tx ["G Mir.LI _ _ _ _ (Mir.jZ _ _); R Mir.xN ?p1"]
local macro_rules | `(tactic| walk_at "h slice")=>Mir.tx ["G PE _ (Expr.Subscript _ (Expr.Slice _ _ none _) _) _; R mf (BD !) ?p1 ?p2 ?p3"]
local macro_rules | `(tactic| walk_at "h pe")=>Mir.tx ["G PE _ (Expr.Call (Expr.Attribute _ (Str.ofString 'find') _) _ _ _) _; R sO PySem.F.plainAttrs_str PySem.F.slot_str_find PySem.F.type_str_find mt_find ?p1 ?p2","G PE _ (Expr.Call (Expr.Attribute _ (Str.ofString 'index') _) _ _ _) _; R sO PySem.F.plainAttrs_str PySem.F.slot_str_index PySem.F.type_str_index uM ?p1 ?p2","G PE _ (Expr.BinOp (Expr.List _ _) Operator.Mult _ _) _; R sC <h mul> ?p1 ?p2"]
local macro_rules | `(tactic| walk_at "m e")=>Mir.tx ["G Mir.LE _ _ _ (Mir.Dv _ _); R Mir.le_find ?p1 ?p2","G Mir.LE _ _ _ (Mir.iX _ _); R Mir.uN ?p1 ?p2"]
local macro_rules | `(tactic| walk_at "m s")=>Mir.tx ["G Mir.LS _ _ _ (Mir.mAsgTO _ _ _ _); R Mir.uU rfl rfl ?p1"]
local macro_rules | `(tactic| walk_at "m i")=>Mir.tx ["G Mir.LI _ _ _ _ (Mir.kg _); Q Mir.xV ?o; C o %"]
section
variable {P:Program} {w:World} {K:PySem.W.Frag} {mg:Str->Option Value} {base:Heap}
theorem sc_x0:FnScope ["many","shape","row","i","j"] ["many","shape"] (ag r8):=⟨rfl,rfl,rfl,by decide +kernel,rfl,by decide +kernel,by decide +kernel⟩
theorem Eb {f:Addr} {fd:FuncData} {tk_NO_PARTNER:Tok} (F:Fun K "row_of" "row_of" r8 f fd) (c_NO_PARTNER:mg "NO_PARTNER"=some (.int (-1) tk_NO_PARTNER)):FnOk P w K mg base CX0 1 f fd ["many","shape"] (Mir.spP K Mir.oU):=by
 refine Mir.aL (md:=Mir.i9) (mb:=Mir.p8) (n:=5) (np:=2) F sc_x0 rfl rfl rfl rfl rfl ?_
 intro cdv A outer s H E hr
 have nd:=sc_x0.nd
 have kt:KT K:=⟨⟩
 refine' ⟨_,?a,?b⟩
 case a=>
   show PSs _ (_::_) _
   walk_at "h all"
 case b=>
   intro C hC
   subst hC
   unfold Mir.p8 Mir.hX
   walk_at "m all"
theorem sc_x1:FnScope ["many","shape","hoop","row","spot","stop","hoops","free"] ["many","shape","hoop"] (ag r9):=⟨rfl,rfl,rfl,by decide +kernel,rfl,by decide +kernel,by decide +kernel⟩
theorem Ec {f:Addr} {fd:FuncData} {tk_NO_PARTNER:Tok} (F:Fun K "ring_of" "ring_of" r9 f fd) (G_x0:FnG P w K mg base "row_of" 1 ["many","shape"] (Mir.spP K Mir.oU)) (c_NO_PARTNER:mg "NO_PARTNER"=some (.int (-1) tk_NO_PARTNER)):FnOk P w K mg base CX0 2 f fd ["many","shape","hoop"] (Mir.spP K Mir.rK):=by
 refine Mir.aL (md:=Mir.dI) (mb:=Mir.m9) (n:=8) (np:=3) F sc_x1 rfl rfl rfl rfl rfl ?_
 intro cdv A outer s H E hr
 have nd:=sc_x1.nd
 have kt:KT K:=⟨⟩
 refine' ⟨_,?a,?b⟩
 case a=>
   show PSs _ (_::_) _
   walk_at "h all"
 case b=>
   intro C hC
   subst hC
   unfold Mir.m9 Mir.cR
   walk_at "m all"
theorem sc_x2:FnScope ["many","shape","hoop","hoops","free"] ["many","shape","hoop"] (ag sd):=⟨rfl,rfl,rfl,by decide +kernel,rfl,by decide +kernel,by decide +kernel⟩
theorem Ed {f:Addr} {fd:FuncData} (F:Fun K "ways_out" "ways_out" sd f fd) (G_x1:FnG P w K mg base "ring_of" 2 ["many","shape","hoop"] (Mir.spP K Mir.rK)):FnOk P w K mg base CX0 3 f fd ["many","shape","hoop"] (Mir.spP K Mir.oW):=by
 refine Mir.aL (md:=Mir.u8) (mb:=Mir.nv) (n:=5) (np:=3) F sc_x2 rfl rfl rfl rfl rfl ?_
 intro cdv A outer s H E hr
 have nd:=sc_x2.nd
 have kt:KT K:=⟨⟩
 refine' ⟨_,?a,?b⟩
 case a=>
   show PSs _ (_::_) _
   walk_at "h all"
 case b=>
   intro C hC
   subst hC
   unfold Mir.nv
   walk_at "m all"
theorem sc_x3:FnScope ["cord","ways","at","one","other"] ["cord","ways"] (ag se):=⟨rfl,rfl,rfl,by decide +kernel,rfl,by decide +kernel,by decide +kernel⟩
theorem Ee {f:Addr} {fd:FuncData} (F:Fun K "ways_alike" "ways_alike" se f fd) (b_enumerate:mg "enumerate"=none):FnOk P w K mg base CX0 1 f fd ["cord","ways"] (Mir.spP K Mir.rJ):=by
 refine Mir.aL (md:=Mir.p9) (mb:=Mir.m6) (n:=5) (np:=2) F sc_x3 rfl rfl rfl rfl rfl ?_
 intro cdv A outer s H E hr
 have nd:=sc_x3.nd
 have kt:KT K:=⟨⟩
 refine' ⟨_,?a,?b⟩
 case a=>
   show PSs _ (_::_) _
   walk_at "h all"
 case b=>
   intro C hC
   subst hC
   unfold Mir.m6 Mir.eE Mir.cQ
   walk_at "m all"
theorem sc_x4:FnScope ["many","shape","one","other","row","out","back"] ["many","shape","one","other"] (ag sf):=⟨rfl,rfl,rfl,by decide +kernel,rfl,by decide +kernel,by decide +kernel⟩
theorem Ef {f:Addr} {fd:FuncData} (F:Fun K "with_backs_exchanged" "with_backs_exchanged" sf f fd) (G_x0:FnG P w K mg base "row_of" 1 ["many","shape"] (Mir.spP K Mir.oU)) (b_enumerate:mg "enumerate"=none) (b_tuple:mg "tuple"=none):FnOk P w K mg base CX0 2 f fd ["many","shape","one","other"] (Mir.spP K Mir.u6):=by
 refine Mir.aL (md:=Mir.cJ) (mb:=Mir.qd) (n:=7) (np:=4) F sc_x4 rfl rfl rfl rfl rfl ?_
 intro cdv A outer s H E hr
 have nd:=sc_x4.nd
 have kt:KT K:=⟨⟩
 refine' ⟨_,?a,?b⟩
 case a=>
   show PSs _ (_::_) _
   walk_at "h all"
 case b=>
   intro C hC
   subst hC
   unfold Mir.qd Mir.hZ
   walk_at "m all"
theorem sc_x5:FnScope ["cord","shape","many","hoop","alike"] ["cord","shape"] (ag sg):=⟨rfl,rfl,rfl,by decide +kernel,rfl,by decide +kernel,by decide +kernel⟩
theorem Eg {f:Addr} {fd:FuncData} (F:Fun K "other_full" "other_full" sg f fd) (G_x2:FnG P w K mg base "ways_out" 3 ["many","shape","hoop"] (Mir.spP K Mir.oW)) (G_x3:FnG P w K mg base "ways_alike" 1 ["cord","ways"] (Mir.spP K Mir.rJ)) (G_x4:FnG P w K mg base "with_backs_exchanged" 2 ["many","shape","one","other"] (Mir.spP K Mir.u6)) (b_len:mg "len"=none):FnOk P w K mg base CX0 4 f fd ["cord","shape"] (Mir.spP K Mir.rM):=by
 refine Mir.aL (md:=Mir.nz) (mb:=Mir.nB) (n:=5) (np:=2) F sc_x5 rfl rfl rfl rfl rfl ?_
 intro cdv A outer s H E hr
 have nd:=sc_x5.nd
 have kt:KT K:=⟨⟩
 refine' ⟨_,?a,?b⟩
 case a=>
   show PSs _ (_::_) _
   walk_at "h all"
 case b=>
   intro C hC
   subst hC
   unfold Mir.nB Mir.cT
   walk_at "m all"
theorem sc_x6:FnScope ["script","k","number","mixed","found","turn"] ["script","k"] (ag si):=⟨rfl,rfl,rfl,by decide +kernel,rfl,by decide +kernel,by decide +kernel⟩
theorem Eh {f:Addr} {fd:FuncData} (F:Fun K "_law_store" "_law_store" si f fd) (b_len:mg "len"=none) (b_range:mg "range"=none):FnOk P w K mg base CX0 1 f fd ["script","k"] (Mir.spP K Mir.u3):=by
 refine Mir.aL (md:=Mir.cI) (mb:=Mir.m7) (n:=6) (np:=2) F sc_x6 rfl rfl rfl rfl rfl ?_
 intro cdv A outer s H E hr
 have nd:=sc_x6.nd
 have kt:KT K:=⟨⟩
 refine' ⟨_,?a,?b⟩
 case a=>
   show PSs _ (_::_) _
   walk_at "h all"
 case b=>
   intro C hC
   subst hC
   unfold Mir.m7 Mir.fK
   walk_at "m all"
theorem sc_x7:FnScope ["store","many","found"] ["store","many"] (ag sj):=⟨rfl,rfl,rfl,by decide +kernel,rfl,by decide +kernel,by decide +kernel⟩
theorem Ei {f:Addr} {fd:FuncData} (F:Fun K "_law_take" "_law_take" sj f fd)  : FnOk P w K mg base CX0 1 f fd ["store","many"] (Mir.spM K Mir.fL):=by
 refine Mir.oE (md:=Mir.qa) (mb:=Mir.qb) (n:=3) (np:=1) false F sc_x7 rfl rfl rfl rfl rfl rfl ?_
 intro cdv A outer s H E hr
 have nd:=sc_x7.nd
 have kt:KT K:=⟨⟩
 refine' ⟨_,?a,?b⟩
 case a=>
   show PSs _ (_::_) _
   walk_at "h all"
 case b=>
   intro C hC hF
   subst hC
   unfold Mir.qb
   walk_at "m all"
theorem sc_x8:FnScope ["thing"] ["thing"] (ag sk):=⟨rfl,rfl,rfl,by decide +kernel,rfl,by decide +kernel,by decide +kernel⟩
theorem Ej {f:Addr} {fd:FuncData} (F:Fun K "_law_whole" "_law_whole" sk f fd) (b_bool:mg "bool"=none) (b_int:mg "int"=none) (b_isinstance:mg "isinstance"=none):FnOk P w K mg base CX0 1 f fd ["thing"] (Mir.spP K Mir.oV):=by
 refine Mir.aL (md:=Mir.DR) (mb:=Mir.u4) (n:=1) (np:=1) F sc_x8 rfl rfl rfl rfl rfl ?_
 intro cdv A outer s H E hr
 have nd:=sc_x8.nd
 have kt:KT K:=⟨⟩
 refine' ⟨_,?a,?b⟩
 case a=>
   show PSs _ (_::_) _
   walk_at "h all"
 case b=>
   intro C hC
   subst hC
   unfold Mir.u4
   walk_at "m all"
theorem sc_x9:FnScope ["letter","letters","number"] ["letter"] (ag sn):=⟨rfl,rfl,rfl,by decide +kernel,rfl,by decide +kernel,by decide +kernel⟩
theorem Ek {f:Addr} {fd:FuncData} (F:Fun K "_law_fellow" "_law_fellow" sn f fd)  : FnOk P w K mg base CX0 1 f fd ["letter"] (Mir.spP K Mir.lI):=by
 refine Mir.aL (md:=Mir.u5) (mb:=Mir.qc) (n:=3) (np:=1) F sc_x9 rfl rfl rfl rfl rfl ?_
 intro cdv A outer s H E hr
 have nd:=sc_x9.nd
 have kt:KT K:=⟨⟩
 refine' ⟨_,?a,?b⟩
 case a=>
   show PSs _ (_::_) _
   walk_at "h all"
 case b=>
   intro C hC
   subst hC
   unfold Mir.qc
   walk_at "m all"
theorem sc_x10:FnScope ["store","half","hoops","waits","left","spot"] ["store","half"] (ag kA):=⟨rfl,rfl,rfl,by decide +kernel,rfl,by decide +kernel,by decide +kernel⟩
theorem Ca {f:Addr} {fd:FuncData} (F:Fun K "_law_full" "_law_full" kA f fd) (G_x7:FnG P w K mg base "_law_take" 1 ["store","many"] (Mir.spM K Mir.fL)) (b_len:mg "len"=none) (b_range:mg "range"=none) (b_sorted:mg "sorted"=none) (b_tuple:mg "tuple"=none):FnOk P w K mg base CX0 2 f fd ["store","half"] (Mir.spM K Mir.nh):=by
 refine Mir.oE (md:=Mir.cx) (mb:=Mir.lK) (n:=6) (np:=1) false F sc_x10 rfl rfl rfl rfl rfl rfl ?_
 intro cdv A outer s H E hr
 have nd:=sc_x10.nd
 have kt:KT K:=⟨⟩
 refine' ⟨_,?a,?b⟩
 case a=>
   show PSs _ (_::_) _
   walk_at "h all"
 case b=>
   intro C hC hF
   subst hC
   unfold Mir.lK Mir.bE
   walk_at "m all"
theorem sc_x11:FnScope ["store","shape","c","cord","i","j"] ["store","shape","c"] (ag kB):=⟨rfl,rfl,rfl,by decide +kernel,rfl,by decide +kernel,by decide +kernel⟩
theorem Cb {f:Addr} {fd:FuncData} (F:Fun K "_law_cord_for" "_law_cord_for" kB f fd) (G_x7:FnG P w K mg base "_law_take" 1 ["store","many"] (Mir.spM K Mir.fL)) (G_x9:FnG P w K mg base "_law_fellow" 1 ["letter"] (Mir.spP K Mir.lI)) (b_len:mg "len"=none):FnOk P w K mg base CX0 2 f fd ["store","shape","c"] (Mir.spM K Mir.ni):=by
 refine Mir.oE (md:=Mir.dJ) (mb:=Mir.lL) (n:=6) (np:=2) false F sc_x11 rfl rfl rfl rfl rfl rfl ?_
 intro cdv A outer s H E hr
 have nd:=sc_x11.nd
 have kt:KT K:=⟨⟩
 refine' ⟨_,?a,?b⟩
 case a=>
   show PSs _ (_::_) _
   walk_at "h all"
 case b=>
   intro C hC hF
   subst hC
   unfold Mir.lL Mir.fM
   walk_at "m all"
theorem sc_x12:FnScope ["cord","many","ways","size","i","found","j"] ["cord"] (ag kC):=⟨rfl,rfl,rfl,by decide +kernel,rfl,by decide +kernel,by decide +kernel⟩
theorem Cc {f:Addr} {fd:FuncData} (F:Fun K "_law_ways" "_law_ways" kC f fd) (G_x9:FnG P w K mg base "_law_fellow" 1 ["letter"] (Mir.spP K Mir.lI)) (b_int:mg "int"=none) (b_len:mg "len"=none) (b_range:mg "range"=none):FnOk P w K mg base CX0 2 f fd ["cord"] (Mir.spP K Mir.nl):=by
 refine Mir.aL (md:=Mir.cS) (mb:=Mir.lM) (n:=7) (np:=1) F sc_x12 rfl rfl rfl rfl rfl ?_
 intro cdv A outer s H E hr
 have nd:=sc_x12.nd
 have kt:KT K:=⟨⟩
 refine' ⟨_,?a,?b⟩
 case a=>
   show PSs _ (_::_) _
   walk_at "h all"
 case b=>
   intro C hC
   subst hC
   unfold Mir.lM Mir.fN Mir.dL Mir.cK
   walk_at "m all"
theorem sc_x13:FnScope ["cord","shape","row","behind","hoop","i","j","waits","spot"] ["cord","shape"] (ag kD):=⟨rfl,rfl,rfl,by decide +kernel,rfl,by decide +kernel,by decide +kernel⟩
theorem Cd {f:Addr} {fd:FuncData} (F:Fun K "_law_fits" "_law_fits" kD f fd) (G_x8:FnG P w K mg base "_law_whole" 1 ["thing"] (Mir.spP K Mir.oV)) (G_x9:FnG P w K mg base "_law_fellow" 1 ["letter"] (Mir.spP K Mir.lI)) (b_isinstance:mg "isinstance"=none) (b_len:mg "len"=none) (b_range:mg "range"=none) (b_tuple:mg "tuple"=none):FnOk P w K mg base CX0 2 f fd ["cord","shape"] (Mir.spP K Mir.nq):=by
 refine Mir.aL (md:=Mir.bw) (mb:=Mir.lN) (n:=9) (np:=2) F sc_x13 rfl rfl rfl rfl rfl ?_
 intro cdv A outer s H E hr
 have nd:=sc_x13.nd
 have kt:KT K:=⟨⟩
 refine' ⟨_,?a,?b⟩
 case a=>
   show PSs _ (_::_) _
   walk_at "h all"
 case b=>
   intro C hC
   subst hC
   unfold Mir.lN Mir.fO Mir.dM
   walk_at "m all"
theorem sc_x14:FnScope ["shape","rings","around","hoop"] ["shape"] (ag kE):=⟨rfl,rfl,rfl,by decide +kernel,rfl,by decide +kernel,by decide +kernel⟩
theorem Ce {f:Addr} {fd:FuncData} (F:Fun K "_law_rings" "_law_rings" kE f fd)  : FnOk P w K mg base CX0 1 f fd ["shape"] (Mir.spP K Mir.m8):=by
 refine Mir.aL (md:=Mir.BT) (mb:=Mir.lJ) (n:=4) (np:=1) F sc_x14 rfl rfl rfl rfl rfl ?_
 intro cdv A outer s H E hr
 have nd:=sc_x14.nd
 have kt:KT K:=⟨⟩
 refine' ⟨_,?a,?b⟩
 case a=>
   show PSs _ (_::_) _
   walk_at "h all"
 case b=>
   intro C hC
   subst hC
   unfold Mir.lJ Mir.bD
   refine Mir.uR ?h1 ?h2 ?h3 ?h4 ?h5 rfl rfl rfl ?h6 ?h7
   case h6=>
     intro i h
     rcases i with _ | _ | _ | _ | i <;> first | rfl | exact absurd rfl h
   case h7=>
     intro i h
     rcases h with h | h <;> rcases i with _ | _ | _ | _ | i <;> cases h
   all_goals walk_at "m all"
theorem sc_x15:FnScope ["shape","rings","found","hoop"] ["shape"] (ag kF):=⟨rfl,rfl,rfl,by decide +kernel,rfl,by decide +kernel,by decide +kernel⟩
theorem Cf {f:Addr} {fd:FuncData} (F:Fun K "_law_breadths" "_law_breadths" kF f fd) (G_x14:FnG P w K mg base "_law_rings" 1 ["shape"] (Mir.spP K Mir.m8)) (b_int:mg "int"=none) (b_len:mg "len"=none):FnOk P w K mg base CX0 2 f fd ["shape"] (Mir.spP K Mir.nu):=by
 refine Mir.aL (md:=Mir.u7) (mb:=Mir.lO) (n:=4) (np:=1) F sc_x15 rfl rfl rfl rfl rfl ?_
 intro cdv A outer s H E hr
 have nd:=sc_x15.nd
 have kt:KT K:=⟨⟩
 refine' ⟨_,?a,?b⟩
 case a=>
   show PSs _ (_::_) _
   walk_at "h all"
 case b=>
   intro C hC
   subst hC
   unfold Mir.lO Mir.dN
   walk_at "m all"
theorem sc_x16:FnScope ["cord","shape","wide","found","many"] ["cord","shape","wide"] (ag kG):=⟨rfl,rfl,rfl,by decide +kernel,rfl,by decide +kernel,by decide +kernel⟩
theorem Cg {f:Addr} {fd:FuncData} (F:Fun K "_law_right" "_law_right" kG f fd) (G_x5:FnG P w K mg base "other_full" 4 ["cord","shape"] (Mir.spP K Mir.rM)) (G_x12:FnG P w K mg base "_law_ways" 2 ["cord"] (Mir.spP K Mir.nl)) (G_x13:FnG P w K mg base "_law_fits" 2 ["cord","shape"] (Mir.spP K Mir.nq)):FnOk P w K mg base CX0 5 f fd ["cord","shape","wide"] (Mir.spP K Mir.fP):=by
 refine Mir.aL (md:=Mir.oX) (mb:=Mir.ja) (n:=5) (np:=3) F sc_x16 rfl rfl rfl rfl rfl ?_
 intro cdv A outer s H E hr
 have nd:=sc_x16.nd
 have kt:KT K:=⟨⟩
 refine' ⟨_,?a,?b⟩
 case a=>
   show PSs _ (_::_) _
   walk_at "h all"
 case b=>
   intro C hC
   subst hC
   unfold Mir.ja
   walk_at "m all"
theorem sc_law:FnScope ["script","k","store","shape","most","c","cord","turn"] ["script"] (ag fT):=⟨rfl,rfl,rfl,by decide +kernel,rfl,by decide +kernel,by decide +kernel⟩
theorem Ch {f:Addr} {fd:FuncData} (F:Fun K "law" "law" fT f fd) (G_x6:FnG P w K mg base "_law_store" 1 ["script","k"] (Mir.spP K Mir.u3)) (G_x7:FnG P w K mg base "_law_take" 1 ["store","many"] (Mir.spM K Mir.fL)) (G_x10:FnG P w K mg base "_law_full" 2 ["store","half"] (Mir.spM K Mir.nh)) (G_x11:FnG P w K mg base "_law_cord_for" 2 ["store","shape","c"] (Mir.spM K Mir.ni)) (G_x15:FnG P w K mg base "_law_breadths" 2 ["shape"] (Mir.spP K Mir.nu)) (G_x16:FnG P w K mg base "_law_right" 5 ["cord","shape","wide"] (Mir.spP K Mir.fP)) (b_len:mg "len"=none) (b_max:mg "max"=none) (b_min:mg "min"=none) (b_range:mg "range"=none) (okl:∀ ns:List Int,ns.length<=63->Mir.zE [.scr ns]=some (.d (.bl true))):FnOk P w K mg base CX0 6 f fd ["script"] (Mir.gl K):=by
 refine Mir.xh (md:=Mir.aS) (mb:=Mir.lP) (n:=8) F sc_law rfl rfl rfl rfl okl ?_
 intro cdv A outer s H E hr
 have nd:=sc_law.nd
 have kt:KT K:=⟨⟩
 refine' ⟨_,?a,?b⟩
 case a=>
   show PSs _ (_::_) _
   walk_at "h all"
 case b=>
   intro C hC
   subst hC
   unfold Mir.lP Mir.cL Mir.dO
   walk_at "m all"
end
theorem Ci {l:PySem.W.OpenLaw} {w:World} {K:PySem.W.Frag} {h:Heap} {mg:Str->Option Value} {fa f0 f1 f2 f3 f4 f5 f6 f7 f8 f9 f10 f11 f12 f13 f14 f15 f16 f17:Addr} (X:K.In h) (G:h.Ns mainGlobals mg) (hfa:mg "law"=some (.ref fa))
   {od0 an0 od1 an1 od2 an2 od3 an3 od4 an4 od5 an5 od6 an6 od7 an7 od8 an8 od9 an9 od10 an10 od11 an11 od12 an12 od13 an13 od14 an14 od15 an15 od16 an16 od17 an17:Option Addr} {sl0 sl1 sl2 sl3 sl4 sl5 sl6 sl7 sl8 sl9 sl10 sl11 sl12 sl13 sl14 sl15 sl16 sl17:Array (Option Value)} {oc0 kV0 dc0 pm0 cd0 ct0 oc1 kV1 dc1 pm1 cd1 ct1 oc2 kV2 dc2 pm2 cd2 ct2 oc3 kV3 dc3 pm3 cd3 ct3 oc4 kV4 dc4 pm4 cd4 ct4 oc5 kV5 dc5 pm5 cd5 ct5 oc6 kV6 dc6 pm6 cd6 ct6 oc7 kV7 dc7 pm7 cd7 ct7 oc8 kV8 dc8 pm8 cd8 ct8 oc9 kV9 dc9 pm9 cd9 ct9 oc10 kV10 dc10 pm10 cd10 ct10 oc11 kV11 dc11 pm11 cd11 ct11 oc12 kV12 dc12 pm12 cd12 ct12 oc13 kV13 dc13 pm13 cd13 ct13 oc14 kV14 dc14 pm14 cd14 ct14 oc15 kV15 dc15 pm15 cd15 ct15 oc16 kV16 dc16 pm16 cd16 ct16 oc17 kV17 dc17 pm17 cd17 ct17:Value} {t_NO_PARTNER:Tok}
   (a0:PySem.W.nsIn K mainGlobals "row_of"=some (some (.ref f0))) (l0:K.lookup f0=some ⟨oc0,od0,.func (PySem.W.fnOf "row_of" "row_of" (aB r8) (ax r8) (ag r8) .none kV0 dc0 pm0 an0 cd0 ct0),sl0⟩) (c0:PySem.W.codeIn K cd0 "row_of"=true) (k0:PySem.W.keepIn K (.ref f0)=true)
   (a1:PySem.W.nsIn K mainGlobals "ring_of"=some (some (.ref f1))) (l1:K.lookup f1=some ⟨oc1,od1,.func (PySem.W.fnOf "ring_of" "ring_of" (aB r9) (ax r9) (ag r9) .none kV1 dc1 pm1 an1 cd1 ct1),sl1⟩) (c1:PySem.W.codeIn K cd1 "ring_of"=true) (k1:PySem.W.keepIn K (.ref f1)=true)
   (a2:PySem.W.nsIn K mainGlobals "ways_out"=some (some (.ref f2))) (l2:K.lookup f2=some ⟨oc2,od2,.func (PySem.W.fnOf "ways_out" "ways_out" (aB sd) (ax sd) (ag sd) .none kV2 dc2 pm2 an2 cd2 ct2),sl2⟩) (c2:PySem.W.codeIn K cd2 "ways_out"=true) (k2:PySem.W.keepIn K (.ref f2)=true)
   (a3:PySem.W.nsIn K mainGlobals "ways_alike"=some (some (.ref f3))) (l3:K.lookup f3=some ⟨oc3,od3,.func (PySem.W.fnOf "ways_alike" "ways_alike" (aB se) (ax se) (ag se) .none kV3 dc3 pm3 an3 cd3 ct3),sl3⟩) (c3:PySem.W.codeIn K cd3 "ways_alike"=true) (k3:PySem.W.keepIn K (.ref f3)=true)
   (a4:PySem.W.nsIn K mainGlobals "with_backs_exchanged"=some (some (.ref f4))) (l4:K.lookup f4=some ⟨oc4,od4,.func (PySem.W.fnOf "with_backs_exchanged" "with_backs_exchanged" (aB sf) (ax sf) (ag sf) .none kV4 dc4 pm4 an4 cd4 ct4),sl4⟩) (c4:PySem.W.codeIn K cd4 "with_backs_exchanged"=true) (k4:PySem.W.keepIn K (.ref f4)=true)
   (a5:PySem.W.nsIn K mainGlobals "other_full"=some (some (.ref f5))) (l5:K.lookup f5=some ⟨oc5,od5,.func (PySem.W.fnOf "other_full" "other_full" (aB sg) (ax sg) (ag sg) .none kV5 dc5 pm5 an5 cd5 ct5),sl5⟩) (c5:PySem.W.codeIn K cd5 "other_full"=true) (k5:PySem.W.keepIn K (.ref f5)=true)
   (a6:PySem.W.nsIn K mainGlobals "_law_store"=some (some (.ref f6))) (l6:K.lookup f6=some ⟨oc6,od6,.func (PySem.W.fnOf "_law_store" "_law_store" (aB si) (ax si) (ag si) .none kV6 dc6 pm6 an6 cd6 ct6),sl6⟩) (c6:PySem.W.codeIn K cd6 "_law_store"=true) (k6:PySem.W.keepIn K (.ref f6)=true)
   (a7:PySem.W.nsIn K mainGlobals "_law_take"=some (some (.ref f7))) (l7:K.lookup f7=some ⟨oc7,od7,.func (PySem.W.fnOf "_law_take" "_law_take" (aB sj) (ax sj) (ag sj) .none kV7 dc7 pm7 an7 cd7 ct7),sl7⟩) (c7:PySem.W.codeIn K cd7 "_law_take"=true) (k7:PySem.W.keepIn K (.ref f7)=true)
   (a8:PySem.W.nsIn K mainGlobals "_law_whole"=some (some (.ref f8))) (l8:K.lookup f8=some ⟨oc8,od8,.func (PySem.W.fnOf "_law_whole" "_law_whole" (aB sk) (ax sk) (ag sk) .none kV8 dc8 pm8 an8 cd8 ct8),sl8⟩) (c8:PySem.W.codeIn K cd8 "_law_whole"=true) (k8:PySem.W.keepIn K (.ref f8)=true)
   (a9:PySem.W.nsIn K mainGlobals "_law_fellow"=some (some (.ref f9))) (l9:K.lookup f9=some ⟨oc9,od9,.func (PySem.W.fnOf "_law_fellow" "_law_fellow" (aB sn) (ax sn) (ag sn) .none kV9 dc9 pm9 an9 cd9 ct9),sl9⟩) (c9:PySem.W.codeIn K cd9 "_law_fellow"=true) (k9:PySem.W.keepIn K (.ref f9)=true)
   (a10:PySem.W.nsIn K mainGlobals "_law_full"=some (some (.ref f10))) (l10:K.lookup f10=some ⟨oc10,od10,.func (PySem.W.fnOf "_law_full" "_law_full" (aB kA) (ax kA) (ag kA) .none kV10 dc10 pm10 an10 cd10 ct10),sl10⟩) (c10:PySem.W.codeIn K cd10 "_law_full"=true) (k10:PySem.W.keepIn K (.ref f10)=true)
   (a11:PySem.W.nsIn K mainGlobals "_law_cord_for"=some (some (.ref f11))) (l11:K.lookup f11=some ⟨oc11,od11,.func (PySem.W.fnOf "_law_cord_for" "_law_cord_for" (aB kB) (ax kB) (ag kB) .none kV11 dc11 pm11 an11 cd11 ct11),sl11⟩) (c11:PySem.W.codeIn K cd11 "_law_cord_for"=true) (k11:PySem.W.keepIn K (.ref f11)=true)
   (a12:PySem.W.nsIn K mainGlobals "_law_ways"=some (some (.ref f12))) (l12:K.lookup f12=some ⟨oc12,od12,.func (PySem.W.fnOf "_law_ways" "_law_ways" (aB kC) (ax kC) (ag kC) .none kV12 dc12 pm12 an12 cd12 ct12),sl12⟩) (c12:PySem.W.codeIn K cd12 "_law_ways"=true) (k12:PySem.W.keepIn K (.ref f12)=true)
   (a13:PySem.W.nsIn K mainGlobals "_law_fits"=some (some (.ref f13))) (l13:K.lookup f13=some ⟨oc13,od13,.func (PySem.W.fnOf "_law_fits" "_law_fits" (aB kD) (ax kD) (ag kD) .none kV13 dc13 pm13 an13 cd13 ct13),sl13⟩) (c13:PySem.W.codeIn K cd13 "_law_fits"=true) (k13:PySem.W.keepIn K (.ref f13)=true)
   (a14:PySem.W.nsIn K mainGlobals "_law_rings"=some (some (.ref f14))) (l14:K.lookup f14=some ⟨oc14,od14,.func (PySem.W.fnOf "_law_rings" "_law_rings" (aB kE) (ax kE) (ag kE) .none kV14 dc14 pm14 an14 cd14 ct14),sl14⟩) (c14:PySem.W.codeIn K cd14 "_law_rings"=true) (k14:PySem.W.keepIn K (.ref f14)=true)
   (a15:PySem.W.nsIn K mainGlobals "_law_breadths"=some (some (.ref f15))) (l15:K.lookup f15=some ⟨oc15,od15,.func (PySem.W.fnOf "_law_breadths" "_law_breadths" (aB kF) (ax kF) (ag kF) .none kV15 dc15 pm15 an15 cd15 ct15),sl15⟩) (c15:PySem.W.codeIn K cd15 "_law_breadths"=true) (k15:PySem.W.keepIn K (.ref f15)=true)
   (a16:PySem.W.nsIn K mainGlobals "_law_right"=some (some (.ref f16))) (l16:K.lookup f16=some ⟨oc16,od16,.func (PySem.W.fnOf "_law_right" "_law_right" (aB kG) (ax kG) (ag kG) .none kV16 dc16 pm16 an16 cd16 ct16),sl16⟩) (c16:PySem.W.codeIn K cd16 "_law_right"=true) (k16:PySem.W.keepIn K (.ref f16)=true)
   (a17:PySem.W.nsIn K mainGlobals "law"=some (some (.ref f17))) (l17:K.lookup f17=some ⟨oc17,od17,.func (PySem.W.fnOf "law" "law" (aB fT) (ax fT) (ag fT) .none kV17 dc17 pm17 an17 cd17 ct17),sl17⟩) (c17:PySem.W.codeIn K cd17 "law"=true) (k17:PySem.W.keepIn K (.ref f17)=true)
   (z_bool:PySem.W.nsIn K mainGlobals "bool"=some none)
   (z_enumerate:PySem.W.nsIn K mainGlobals "enumerate"=some none)
   (z_int:PySem.W.nsIn K mainGlobals "int"=some none)
   (z_isinstance:PySem.W.nsIn K mainGlobals "isinstance"=some none)
   (z_len:PySem.W.nsIn K mainGlobals "len"=some none)
   (z_max:PySem.W.nsIn K mainGlobals "max"=some none)
   (z_min:PySem.W.nsIn K mainGlobals "min"=some none)
   (z_range:PySem.W.nsIn K mainGlobals "range"=some none)
   (z_sorted:PySem.W.nsIn K mainGlobals "sorted"=some none)
   (z_tuple:PySem.W.nsIn K mainGlobals "tuple"=some none)
   (y_NO_PARTNER:PySem.W.nsIn K mainGlobals "NO_PARTNER"=some (some (.int (-1) t_NO_PARTNER)))
   : ∃ fd:FuncData,(∀ (s:Shared) (v:Value),BindsTo s fd ⟨[v],[]⟩ [("script",v)])/\∀ base:Heap,K.In base->base.Ns mainGlobals mg->FnOk l.prog w K mg base CX0 6 fa fd ["script"] (Mir.gl K):=by
 have e:=hfa.symm.trans (PySem.W.mg_of X G a17)
 cases e
 have b_bool:mg "bool"=none:=PySem.W.mg_none_of X G z_bool
 have b_enumerate:mg "enumerate"=none:=PySem.W.mg_none_of X G z_enumerate
 have b_int:mg "int"=none:=PySem.W.mg_none_of X G z_int
 have b_isinstance:mg "isinstance"=none:=PySem.W.mg_none_of X G z_isinstance
 have b_len:mg "len"=none:=PySem.W.mg_none_of X G z_len
 have b_max:mg "max"=none:=PySem.W.mg_none_of X G z_max
 have b_min:mg "min"=none:=PySem.W.mg_none_of X G z_min
 have b_range:mg "range"=none:=PySem.W.mg_none_of X G z_range
 have b_sorted:mg "sorted"=none:=PySem.W.mg_none_of X G z_sorted
 have b_tuple:mg "tuple"=none:=PySem.W.mg_none_of X G z_tuple
 have e_NO_PARTNER:=PySem.W.mg_of X G y_NO_PARTNER
 have F0:=aR (st:=r8) l0 c0 k0
 have d0:=F0.binds (ps:=["many","shape"]) fun _ _ _ _ _ _ v0 h0=>by obtain ⟨_,v1,rfl,h1⟩:=My.blS h0; obtain ⟨_,v2,rfl,h2⟩:=My.blS h1; cases My.bl0 h2; rfl
 have F1:=aR (st:=r9) l1 c1 k1
 have d1:=F1.binds (ps:=["many","shape","hoop"]) fun _ _ _ _ _ _ v0 h0=>by obtain ⟨_,v1,rfl,h1⟩:=My.blS h0; obtain ⟨_,v2,rfl,h2⟩:=My.blS h1; obtain ⟨_,v3,rfl,h3⟩:=My.blS h2; cases My.bl0 h3; rfl
 have F2:=aR (st:=sd) l2 c2 k2
 have d2:=F2.binds (ps:=["many","shape","hoop"]) fun _ _ _ _ _ _ v0 h0=>by obtain ⟨_,v1,rfl,h1⟩:=My.blS h0; obtain ⟨_,v2,rfl,h2⟩:=My.blS h1; obtain ⟨_,v3,rfl,h3⟩:=My.blS h2; cases My.bl0 h3; rfl
 have F3:=aR (st:=se) l3 c3 k3
 have d3:=F3.binds (ps:=["cord","ways"]) fun _ _ _ _ _ _ v0 h0=>by obtain ⟨_,v1,rfl,h1⟩:=My.blS h0; obtain ⟨_,v2,rfl,h2⟩:=My.blS h1; cases My.bl0 h2; rfl
 have F4:=aR (st:=sf) l4 c4 k4
 have d4:=F4.binds (ps:=["many","shape","one","other"]) fun _ _ _ _ _ _ v0 h0=>by obtain ⟨_,v1,rfl,h1⟩:=My.blS h0; obtain ⟨_,v2,rfl,h2⟩:=My.blS h1; obtain ⟨_,v3,rfl,h3⟩:=My.blS h2; obtain ⟨_,v4,rfl,h4⟩:=My.blS h3; cases My.bl0 h4; rfl
 have F5:=aR (st:=sg) l5 c5 k5
 have d5:=F5.binds (ps:=["cord","shape"]) fun _ _ _ _ _ _ v0 h0=>by obtain ⟨_,v1,rfl,h1⟩:=My.blS h0; obtain ⟨_,v2,rfl,h2⟩:=My.blS h1; cases My.bl0 h2; rfl
 have F6:=aR (st:=si) l6 c6 k6
 have d6:=F6.binds (ps:=["script","k"]) fun _ _ _ _ _ _ v0 h0=>by obtain ⟨_,v1,rfl,h1⟩:=My.blS h0; obtain ⟨_,v2,rfl,h2⟩:=My.blS h1; cases My.bl0 h2; rfl
 have F7:=aR (st:=sj) l7 c7 k7
 have d7:=F7.binds (ps:=["store","many"]) fun _ _ _ _ _ _ v0 h0=>by obtain ⟨_,v1,rfl,h1⟩:=My.blS h0; obtain ⟨_,v2,rfl,h2⟩:=My.blS h1; cases My.bl0 h2; rfl
 have F8:=aR (st:=sk) l8 c8 k8
 have d8:=F8.binds (ps:=["thing"]) fun _ _ _ _ _ _ v0 h0=>by obtain ⟨_,v1,rfl,h1⟩:=My.blS h0; cases My.bl0 h1; rfl
 have F9:=aR (st:=sn) l9 c9 k9
 have d9:=F9.binds (ps:=["letter"]) fun _ _ _ _ _ _ v0 h0=>by obtain ⟨_,v1,rfl,h1⟩:=My.blS h0; cases My.bl0 h1; rfl
 have F10:=aR (st:=kA) l10 c10 k10
 have d10:=F10.binds (ps:=["store","half"]) fun _ _ _ _ _ _ v0 h0=>by obtain ⟨_,v1,rfl,h1⟩:=My.blS h0; obtain ⟨_,v2,rfl,h2⟩:=My.blS h1; cases My.bl0 h2; rfl
 have F11:=aR (st:=kB) l11 c11 k11
 have d11:=F11.binds (ps:=["store","shape","c"]) fun _ _ _ _ _ _ v0 h0=>by obtain ⟨_,v1,rfl,h1⟩:=My.blS h0; obtain ⟨_,v2,rfl,h2⟩:=My.blS h1; obtain ⟨_,v3,rfl,h3⟩:=My.blS h2; cases My.bl0 h3; rfl
 have F12:=aR (st:=kC) l12 c12 k12
 have d12:=F12.binds (ps:=["cord"]) fun _ _ _ _ _ _ v0 h0=>by obtain ⟨_,v1,rfl,h1⟩:=My.blS h0; cases My.bl0 h1; rfl
 have F13:=aR (st:=kD) l13 c13 k13
 have d13:=F13.binds (ps:=["cord","shape"]) fun _ _ _ _ _ _ v0 h0=>by obtain ⟨_,v1,rfl,h1⟩:=My.blS h0; obtain ⟨_,v2,rfl,h2⟩:=My.blS h1; cases My.bl0 h2; rfl
 have F14:=aR (st:=kE) l14 c14 k14
 have d14:=F14.binds (ps:=["shape"]) fun _ _ _ _ _ _ v0 h0=>by obtain ⟨_,v1,rfl,h1⟩:=My.blS h0; cases My.bl0 h1; rfl
 have F15:=aR (st:=kF) l15 c15 k15
 have d15:=F15.binds (ps:=["shape"]) fun _ _ _ _ _ _ v0 h0=>by obtain ⟨_,v1,rfl,h1⟩:=My.blS h0; cases My.bl0 h1; rfl
 have F16:=aR (st:=kG) l16 c16 k16
 have d16:=F16.binds (ps:=["cord","shape","wide"]) fun _ _ _ _ _ _ v0 h0=>by obtain ⟨_,v1,rfl,h1⟩:=My.blS h0; obtain ⟨_,v2,rfl,h2⟩:=My.blS h1; obtain ⟨_,v3,rfl,h3⟩:=My.blS h2; cases My.bl0 h3; rfl
 have F17:=aR (st:=fT) l17 c17 k17
 refine ⟨PySem.W.fnOf "law" "law" (aB fT) (ax fT) (ag fT) .none kV17 dc17 pm17 an17 cd17 ct17,fun s v=>.of_eq rfl,fun base KB GB=>?_⟩
 have G_x0:FnG l.prog w K mg base "row_of" 1 ["many","shape"] (Mir.spP K Mir.oU):=⟨f0,_,Eb F0 e_NO_PARTNER,PySem.W.mg_of X G a0,k0,d0⟩
 have G_x3:FnG l.prog w K mg base "ways_alike" 1 ["cord","ways"] (Mir.spP K Mir.rJ):=⟨f3,_,Ee F3 b_enumerate,PySem.W.mg_of X G a3,k3,d3⟩
 have G_x6:FnG l.prog w K mg base "_law_store" 1 ["script","k"] (Mir.spP K Mir.u3):=⟨f6,_,Eh F6 b_len b_range,PySem.W.mg_of X G a6,k6,d6⟩
 have G_x7:FnG l.prog w K mg base "_law_take" 1 ["store","many"] (Mir.spM K Mir.fL):=⟨f7,_,Ei F7 ,PySem.W.mg_of X G a7,k7,d7⟩
 have G_x8:FnG l.prog w K mg base "_law_whole" 1 ["thing"] (Mir.spP K Mir.oV):=⟨f8,_,Ej F8 b_bool b_int b_isinstance,PySem.W.mg_of X G a8,k8,d8⟩
 have G_x9:FnG l.prog w K mg base "_law_fellow" 1 ["letter"] (Mir.spP K Mir.lI):=⟨f9,_,Ek F9 ,PySem.W.mg_of X G a9,k9,d9⟩
 have G_x14:FnG l.prog w K mg base "_law_rings" 1 ["shape"] (Mir.spP K Mir.m8):=⟨f14,_,Ce F14 ,PySem.W.mg_of X G a14,k14,d14⟩
 have G_x1:FnG l.prog w K mg base "ring_of" 2 ["many","shape","hoop"] (Mir.spP K Mir.rK):=⟨f1,_,Ec F1 G_x0 e_NO_PARTNER,PySem.W.mg_of X G a1,k1,d1⟩
 have G_x4:FnG l.prog w K mg base "with_backs_exchanged" 2 ["many","shape","one","other"] (Mir.spP K Mir.u6):=⟨f4,_,Ef F4 G_x0 b_enumerate b_tuple,PySem.W.mg_of X G a4,k4,d4⟩
 have G_x10:FnG l.prog w K mg base "_law_full" 2 ["store","half"] (Mir.spM K Mir.nh):=⟨f10,_,Ca F10 G_x7 b_len b_range b_sorted b_tuple,PySem.W.mg_of X G a10,k10,d10⟩
 have G_x11:FnG l.prog w K mg base "_law_cord_for" 2 ["store","shape","c"] (Mir.spM K Mir.ni):=⟨f11,_,Cb F11 G_x7 G_x9 b_len,PySem.W.mg_of X G a11,k11,d11⟩
 have G_x12:FnG l.prog w K mg base "_law_ways" 2 ["cord"] (Mir.spP K Mir.nl):=⟨f12,_,Cc F12 G_x9 b_int b_len b_range,PySem.W.mg_of X G a12,k12,d12⟩
 have G_x13:FnG l.prog w K mg base "_law_fits" 2 ["cord","shape"] (Mir.spP K Mir.nq):=⟨f13,_,Cd F13 G_x8 G_x9 b_isinstance b_len b_range b_tuple,PySem.W.mg_of X G a13,k13,d13⟩
 have G_x15:FnG l.prog w K mg base "_law_breadths" 2 ["shape"] (Mir.spP K Mir.nu):=⟨f15,_,Cf F15 G_x14 b_int b_len,PySem.W.mg_of X G a15,k15,d15⟩
 have G_x2:FnG l.prog w K mg base "ways_out" 3 ["many","shape","hoop"] (Mir.spP K Mir.oW):=⟨f2,_,Ed F2 G_x1,PySem.W.mg_of X G a2,k2,d2⟩
 have G_x5:FnG l.prog w K mg base "other_full" 4 ["cord","shape"] (Mir.spP K Mir.rM):=⟨f5,_,Eg F5 G_x2 G_x3 G_x4 b_len,PySem.W.mg_of X G a5,k5,d5⟩
 have G_x16:FnG l.prog w K mg base "_law_right" 5 ["cord","shape","wide"] (Mir.spP K Mir.fP):=⟨f16,_,Cg F16 G_x5 G_x12 G_x13,PySem.W.mg_of X G a16,k16,d16⟩
 exact Ch F17 G_x6 G_x7 G_x10 G_x11 G_x15 G_x16 b_len b_max b_min b_range Mir.vI
theorem Cj {K:PySem.W.Frag} {H:Hp} {a:Addr} {ns:List Int} (hO:L2.v6 H) (h:SqL K H a (ns.map V.int)):Mir.ScrAt K H a ns:=by
 rcases h with (h | h) | h
 · rcases hO a with z | ⟨o,xs,z⟩
   · rw [h] at z; cases z
   · rw [h] at z; cases z
 · exact .inl h
 · exact .inr h
theorem ET {l:PySem.W.OpenLaw} {q:Program} {loose:List Str} {XP:(Str->Option Value)->Heap->Prop} {YP:World->Heap->Prop} {d:DefRec} {K:Params->PySem.W.Frag} (hn:l.most=some 63) (hdf:d.params.defaults=[])
   (hY:∀ (w:World) (h:Heap),YP w h->(K w.params).In h)
   (F:∀ (w:World) (mg:Str->Option Value) (fa:Addr) (h:Heap),(K w.params).In h->h.Ns mainGlobals mg->mg d.name=some (.ref fa) ->
     ∃ fd:FuncData,(∀ (s:Shared) (u:Value),BindsTo s fd ⟨[u],[]⟩ [("script",u)])/\∀ base:Heap,(K w.params).In base->base.Ns mainGlobals mg->FnOk l.prog w (K w.params) mg base CX0 6 fa fd ["script"] (Mir.gl (K w.params))) :
   PySem.W.WalkO q loose XP YP l.row.toRowW d [] (fun f vs=>PySem.call f vs):=
 L2.v7 (n:=63) (k:=6) (x:="script") (CX:=fun _=>CX0) (sp:=fun w=>Mir.gl (K w.params)) hn (by decide) hdf ⟨rfl,by decide,by decide,rfl⟩ hY F (fun _ _ a ns hl hO hS=>⟨a,ns,rfl,Cj hO hS,hl,fun _=>rfl⟩) fun _ _ _ _ _ z=>z
end My
open PySem PySem.W PyProof.Rows
set_option maxRecDepth 100000 in
set_option maxHeartbeats 0 in
theorem PySem.Challenge.cw_hoopcord_k64_whole_another_full_shape_holds : PySem.Challenge.rw_hoopcord_k64_whole_another_full_shape.Holds := by
 w_on; o_law; k_head; (case hw=>w_witness2)
 k_fill
 refine My.ET (l:=PySem.Challenge.rw_hoopcord_k64_whole_another_full_shape) rfl rfl (fun w h Y=>PySem.W.kIn_of Y) ?F
 case F=>
   intro w mg fa h KX G hmg
   refine' My.Ci KX G hmg ?a0 ?l0 ?c0 ?k0 ?a1 ?l1 ?c1 ?k1 ?a2 ?l2 ?c2 ?k2 ?a3 ?l3 ?c3 ?k3 ?a4 ?l4 ?c4 ?k4 ?a5 ?l5 ?c5 ?k5 ?a6 ?l6 ?c6 ?k6 ?a7 ?l7 ?c7 ?k7 ?a8 ?l8 ?c8 ?k8 ?a9 ?l9 ?c9 ?k9 ?a10 ?l10 ?c10 ?k10 ?a11 ?l11 ?c11 ?k11 ?a12 ?l12 ?c12 ?k12 ?a13 ?l13 ?c13 ?k13 ?a14 ?l14 ?c14 ?k14 ?a15 ?l15 ?c15 ?k15 ?a16 ?l16 ?c16 ?k16 ?a17 ?l17 ?c17 ?k17 ?z_bool ?z_enumerate ?z_int ?z_isinstance ?z_len ?z_max ?z_min ?z_range ?z_sorted ?z_tuple ?y_NO_PARTNER
   (case a0=>k_is); (case l0=>k_is); (case c0=>k_is); (case k0=>k_is); (case a1=>k_is); (case l1=>k_is); (case c1=>k_is); (case k1=>k_is); (case a2=>k_is); (case l2=>k_is); (case c2=>k_is); (case k2=>k_is); (case a3=>k_is); (case l3=>k_is); (case c3=>k_is); (case k3=>k_is); (case a4=>k_is); (case l4=>k_is); (case c4=>k_is); (case k4=>k_is); (case a5=>k_is); (case l5=>k_is); (case c5=>k_is); (case k5=>k_is); (case a6=>k_is); (case l6=>k_is); (case c6=>k_is); (case k6=>k_is); (case a7=>k_is); (case l7=>k_is); (case c7=>k_is); (case k7=>k_is); (case a8=>k_is); (case l8=>k_is); (case c8=>k_is); (case k8=>k_is); (case a9=>k_is); (case l9=>k_is); (case c9=>k_is); (case k9=>k_is); (case a10=>k_is); (case l10=>k_is); (case c10=>k_is); (case k10=>k_is); (case a11=>k_is); (case l11=>k_is); (case c11=>k_is); (case k11=>k_is); (case a12=>k_is); (case l12=>k_is); (case c12=>k_is); (case k12=>k_is); (case a13=>k_is); (case l13=>k_is); (case c13=>k_is); (case k13=>k_is); (case a14=>k_is); (case l14=>k_is); (case c14=>k_is); (case k14=>k_is); (case a15=>k_is); (case l15=>k_is); (case c15=>k_is); (case k15=>k_is); (case a16=>k_is); (case l16=>k_is); (case c16=>k_is); (case k16=>k_is); (case a17=>k_is); (case l17=>k_is); (case c17=>k_is); (case k17=>k_is); (case z_bool=>k_is); (case z_enumerate=>k_is); (case z_int=>k_is); (case z_isinstance=>k_is); (case z_len=>k_is); (case z_max=>k_is); (case z_min=>k_is); (case z_range=>k_is); (case z_sorted=>k_is); (case z_tuple=>k_is); (case y_NO_PARTNER=>k_is)
