import PyProof.Rows.All
import PySem.Challenge.RW_soundroad_k37_whole_asked_twice
import KE.KTabLook
import KE.KItem
import KE.KEqDict
import KE.KDictSum
import KE.KIsAll
import Open.Line
import Wide.Once
set_option genInjectivity false
set_option genSizeOfSpec false
set_option Elab.async false
set_option linter.all false
set_option maxRecDepth 100000
set_option maxHeartbeats 4000000
abbrev ag:=@if_pos
abbrev ah:=@PySem.wpAny_bind
abbrev av:=@if_neg
abbrev aw:=@List.length_map
abbrev aA:=@PySem.wpAny_pure
abbrev aB:=@LawfulBEq.eq_of_beq
abbrev aF:=@Nat.le_refl
abbrev aG:=@Bool.and_eq_true
abbrev aL:=@if_true
abbrev aP:=@List.mem_cons
abbrev aQ:=@List.size_toArray
abbrev aX:=@PySem.Heap.lt_size
abbrev aZ:=@List.map_cons
abbrev a6:=@List.getElem?_eq_getElem
abbrev a7:=@Ne.symm
abbrev bb:=@PySem.Heap.get?_push_of_some
abbrev bc:=@List.mem_map
abbrev bq:=@List.mem_cons_of_mem
abbrev bF:=@List.getElem?_eq_some_iff
abbrev bG:=@List.getElem?_map
abbrev bK:=@List.mem_cons_self
abbrev bT:=@Option.some.injEq
abbrev bU:=@Nat.ne_of_lt
abbrev ci:=@PySem.Heap.get?_push_size
abbrev cy:=@PySem.sizeLine_eq
abbrev cJ:=@List.getD_eq_getElem?_getD
abbrev cK:=@List.map_map
abbrev cY:=@PySem.wpAny_mono
abbrev dj:=@if_false
abbrev du:=@List.length_range
abbrev dI:=@List.getElem?_append_left
abbrev ef:=@beq_eq_false_iff_ne
abbrev eg:=@Nat.lt_of_lt_of_le
abbrev en:=@List.length_append
abbrev eu:=@PySem.wpAny_field
abbrev ez:=@List.map_nil
abbrev eC:=@Bool.false_eq_true
abbrev eN:=@decide_eq_false
abbrev eO:=@Option.some.inj
abbrev eP:=@Nat.le_trans
abbrev fw:=@List.getElem?_set_ne
abbrev fx:=@beq_self_eq_true
abbrev fO:=@Nat.lt_succ_self
abbrev fP:=@List.getElem?_append_right
abbrev fQ:=@PySem.wpAny_newObj_type
abbrev gb:=@Nat.lt_irrefl
abbrev gh:=@List.mem_range
abbrev gj:=@PySem.Heap.size_push
abbrev gO:=@List.mem_append
abbrev gP:=@decide_eq_true
abbrev gQ:=@PySem.Calls.spliced_cons
abbrev gR:=@Bool.and_eq_true_iff
abbrev gS:=@PySem.AutoSeq1.wpAny_loadPart'
abbrev gT:=@decide_eq_true_eq
abbrev gU:=@Bool.or_eq_true
abbrev gW:=@List.all_eq_true
abbrev gX:=@Nat.zero_add
abbrev gY:=@Bool.and_self
abbrev gZ:=@Bool.not_true
abbrev iz:=@List.mem_append_right
abbrev iA:=@Option.isSome_iff_exists
abbrev iB:=@PySem.call_meets
abbrev iC:=@List.drop_zero
abbrev iD:=@PySem.wpAny_Call_Name_kw
abbrev iE:=@Int.le_refl
abbrev iF:=@Bool.not_false
abbrev iG:=@PySem.wpAny_seqItems
abbrev iH:=@List.length_reverse
abbrev iI:=@Int.le_of_lt
abbrev jj:=@Bool.false_and
abbrev jk:=@beq_iff_eq
abbrev jl:=@Nat.zero_le
abbrev jm:=@List.mem_of_getElem?
abbrev jn:=@PySem.wpAny_holding
abbrev jo:=@PySem.wpAny_pyIter_list
abbrev jp:=@List.not_mem_nil
abbrev jq:=@or_false
abbrev ke:=@List.take_append_drop
abbrev kf:=@Nat.ne_of_gt
abbrev kg:=@List.length_take
abbrev kh:=@PyProof.Rows.slot_tuple_getitem
abbrev kj:=@PySem.Calls.spliced_nil
abbrev km:=@PySem.wpAny_pyIter_tuple
abbrev kn:=@Bool.not_eq_true'
abbrev ko:=@Bool.true_and
abbrev kq:=@List.map_append
abbrev lI:=@List.mem_append_left
abbrev lJ:=@List.append_nil
abbrev lK:=@PySem.wpAny_call_entry
abbrev lL:=@PySem.Heap.get?_update_other
abbrev lO:=@PySem.W.mg_of
abbrev lP:=@List.getElem_mem
abbrev lQ:=@List.getElem?_range
abbrev lR:=@not_or
abbrev mW:=@PySem.wpAny_truthy_bool
abbrev mX:=@PySem.codeAny_mono
abbrev mY:=@List.length_drop
abbrev mZ:=@PySem.wpAny_callSpecial?_slot
abbrev m8:=@Nat.lt_trans
abbrev m9:=@PySem.wpAny_rule
abbrev m_:=@List.take_length
abbrev nc:=@PySem.F.plain_min_loop
abbrev ng:=@PySem.wpAny_letGo
abbrev nh:=@List.getElem?_eq_none
abbrev ni:=@PySem.wpAny_passesOwn
abbrev nj:=@List.take_add_one
abbrev pR:=@Nat.le_of_lt
abbrev pS:=@Nat.le_succ
abbrev pU:=@List.nodup_cons
abbrev pV:=@PySem.mem_of_lookup
abbrev pW:=@List.getElem_of_mem
abbrev pX:=@PySem.F.slot_int_rmul
abbrev pY:=@Nat.lt_succ_of_lt
abbrev pZ:=@PySem.W.kia_one
abbrev p5:=@PySem.Calls.evalArgs_plain
abbrev p6:=@PyProof.Rows.assignInOrder_cons
abbrev p7:=@PySem.wpAny_standAt
abbrev p8:=@PySem.wpAny_setField_rec
abbrev p9:=@Nat.le_add_right
abbrev p_:=@Bool.or_false
abbrev qa:=@List.take_of_length_le
abbrev qb:=@List.any_eq_true
abbrev qc:=@Int.zero_add
abbrev qd:=@List.drop_succ_cons
abbrev qe:=@Int.ediv_mul_cancel
abbrev rO:=@List.getElem?_set_self
abbrev rP:=@PyProof.Rows.Constant_none
abbrev rQ:=@List.any_eq_false
abbrev rR:=@List.of_mem_zip
abbrev rS:=@List.filter_cons
abbrev rT:=@PySem.tupleKind_room_in1
abbrev rV:=@PySem.call_meetsIn
abbrev rW:=@PySem.F.slot_tuple_mul
abbrev rX:=@List.all_map
abbrev rY:=@PySem.wpAny_updateSeq
abbrev rZ:=@Bool.and_false
abbrev r_:=@PySem.Calls.callWith_builtin
abbrev sd:=@List.drop_eq_getElem_cons
abbrev se:=@PySem.W.callWith_K
abbrev sh:=@PySem.wpAny_bindName
abbrev si:=@of_decide_eq_true
abbrev sj:=@decide_true
abbrev sk:=@Int.mul_comm
abbrev sr:=@List.mem_singleton
abbrev sw:=@Int.gcd_dvd_left
abbrev wH:=@PySem.Paired.length
abbrev wI:=@List.mem_filter
abbrev wJ:=@List.mem_filterMap
abbrev wK:=@Bool.false_ne_true
abbrev wL:=@List.getElem?_replicate
abbrev wM:=@List.length_replicate
abbrev wN:=@PySem.concat_meets
abbrev wO:=@PySem.wpAny_typeOf
abbrev wP:=@PySem.Heap.get?_update_self
abbrev wQ:=@List.reverse_cons
abbrev wR:=@Bool.true_or
abbrev wS:=@Bool.false_or
abbrev wT:=@Option.isSome_map
abbrev wU:=@List.nodup_append
abbrev wV:=@Nat.sub_self
abbrev wW:=@List.cons.injEq
abbrev wX:=@List.any_map
abbrev wY:=@Nat.min_le_left
abbrev wZ:=@List.mergeSort_perm
abbrev w_:=@PySem.wpAny_Call_method_late
abbrev xf:=@PySem.codeAny_builtin
abbrev xg:=@PySem.wpAny_tryCatch
abbrev xh:=@PySem.plainId_quiet
abbrev xi:=@List.ext_getElem?
abbrev xj:=@List.set_comm
abbrev xk:=@List.length_zip
abbrev xl:=@PySem.W.methodCall_KW
abbrev xm:=@PySem.F.slot_tuple_iterator_next
abbrev xn:=@List.forIn_cons
abbrev xp:=@PySem.wpAny_onRaise
abbrev xq:=@PySem.F.slot_zip_next
abbrev xu:=@List.lookup_append
abbrev xv:=@bne_iff_ne
abbrev xw:=@List.eraseDups_cons
abbrev xy:=@List.isEmpty_iff
abbrev xz:=@List.ne_nil_of_mem
abbrev xA:=@Bool.and_true
abbrev xB:=@Bool.beq_eq_decide_eq
abbrev xC:=@List.map_congr_left
abbrev xD:=@Int.mul_le_mul_of_nonneg_right
abbrev xE:=@Int.mul_nonneg
abbrev xF:=@Int.sub_nonneg_of_le
abbrev xG:=@Int.gcd_dvd_right
abbrev xH:=@Int.natAbs_of_nonneg
abbrev CW:=@PySem.W.plainGet_of
abbrev CY:=@List.getElem?_take_of_lt
abbrev CZ:=@PySem.noFill_tuple_add
abbrev C0:=@PySem.F.slot_tuple_add
abbrev C1:=@PySem.F.entry_tuple_add
abbrev C3:=@PySem.F.args_tuple_add_2
abbrev C4:=@PySem.wpAny_sequenceKey
abbrev C5:=@PySem.slot_list_getitem
abbrev C6:=@Option.map_eq_some_iff
abbrev C7:=@PySem.F.slot_dict_pop
abbrev C8:=@PySem.F.slot_dict_get
abbrev C9:=@PySem.wpAny_binaryOp_repeat_ref
abbrev C_:=@PySem.F.slot_int_index
abbrev Da:=@PySem.F.entry_int_rmul
abbrev Db:=@PySem.F.args_int_rmul_2
abbrev Dc:=@PySem.F.entry_tuple_mul
abbrev Dd:=@PySem.F.args_tuple_mul_2
abbrev De:=@PySem.wpAny_isTrue_Compare1
abbrev Df:=@PySem.Heap.IsSliceOf.new
abbrev Dg:=@PyProof.Rows.callWith_type1
abbrev Dh:=@Int.le_antisymm
abbrev Di:=@List.pairwise_mergeSort
abbrev Dj:=@PySem.AutoSeq1.sub_tuple_tuple
abbrev Dk:=@PySem.F.entry_min_loop
abbrev Dl:=@PySem.Around.under_plainId
abbrev Dm:=@List.drop_length
abbrev Dn:=@PySem.F.plainAttrs_list
abbrev Do:=@PySem.W.callWith_K0
abbrev Dp:=@PySem.wpAny_assign_Name
abbrev Dq:=@List.length_eq_zero_iff
abbrev Dr:=@PySem.wpAny_updateSeq_pair
abbrev Ds:=@PySem.F.called_enumerate
abbrev Dt:=@List.range_succ
abbrev Du:=@List.getElem?_reverse
abbrev Dv:=@List.append_assoc
abbrev Dw:=@Nat.add_sub_cancel_left
abbrev Dx:=@Bool.not_eq_true
abbrev Dy:=@List.getLast?_eq_getElem?
abbrev Dz:=@Nat.min_eq_left
abbrev DB:=@decide_eq_false_iff_not
abbrev DC:=@Option.map_eq_none_iff
abbrev DF:=@List.find?_eq_none
abbrev DH:=@List.mem_of_find?_eq_some
abbrev DJ:=@Int.emod_nonneg
abbrev DK:=@Int.emod_lt_of_pos
abbrev DL:=@Int.mul_right_comm
abbrev DM:=@Int.pos_of_mul_pos_left
abbrev DN:=@Int.le_of_dvd
abbrev Oh:=@PySem.F.slot_dict_delitem
abbrev Oi:=@PyProof.Rows.callWith_builtin1
abbrev Oj:=@List.Perm.eq_of_pairwise
abbrev Ol:=@PyProof.Rows.evalArgs_kwB
abbrev Om:=@Option.isNone_iff_eq_none
abbrev On:=@Classical.byContradiction
abbrev Oo:=@Int.lt_of_mul_lt_mul_right
abbrev Op:=@Int.gcd_pos_of_ne_zero_right
abbrev Oq:=@Int.gcd_mul_left_left_of_gcd_eq_one
abbrev Os:=@Int.eq_of_mul_eq_mul_right
abbrev Ot:=@PyProof.Rows.mem_cps_append
namespace L2
open PySem PySem.Spec PyProof.Rows
set_option genInjectivity false
noncomputable abbrev ao:=Sum Int Str
noncomputable def kr(s:Stmt):Arguments:=match s with
 |.FunctionDef _ a _ _ _ _ _ _ _ _=>a
 |_=>{ posonlyargs:=[],args:=[],vararg:=none,kwonlyargs:=[],kw_defaults:=[],kwarg:=none,defaults:=[] }
noncomputable def fR(s:Stmt):List Stmt:=match s with
 |.FunctionDef _ _ b _ _ _ _ _ _ _=>b
 |_=>[]
noncomputable def cL(s:Stmt):Scope:=match s with
 |.FunctionDef _ _ _ _ _ _ sc _ _ _=>sc
 |_=>{ kind:=.function,names:=[],isGenerator:=false,isCoroutine:=false }
end L2
namespace Q
open PySem PySem.Spec PyProof.Rows L2 PySem.SeqAt
set_option genInjectivity true
inductive PV where
 |non|bl (b:Bool)|int (i:Int)|str (x:Str)|tup (xs:List PV)|lst (xs:List PV)|ref (n:Nat)
set_option genInjectivity false
inductive eD where|add|sub|mul|fdiv|mod
 deriving DecidableEq
inductive ku where|eq|ne|lt|le|gt|ge|inn|notin
inductive Ty where|bool|int|str|tuple|list
 deriving DecidableEq
inductive Bi where|repr|dctL|intB|sorted|sortedR|len|all|any|sum|tuple|list|listN|abs|isinst (t:Ty)|min2|max2
inductive dJ where|seq|range|zip|enum|enumK
inductive Tg where|one (i:Nat)|many (is:List Nat)
inductive Ex where
 |loc (i:Nat)|cst (p:PV)
 |bin (o:eD) (a b:Ex)|neg (a:Ex)|not (a:Ex)|and (a b:Ex)|or (a b:Ex)
 |cmp (o:ku) (a b:Ex)|isn (a:Ex)|isnn (a:Ex)|ife (c a b:Ex)
 |rev (a:Ex)|get2 (a k d:Ex)|pop0 (a:Ex)|lset (a:Ex)
 |pop2 (a k d:Ex)|tabx (D:List (Str×Int)) (e:Ex)
 |dnew (ks:List ao) (es:List Ex)|fld (c:Str) (a:Ex) (f:Str)|mk (c:Str) (i:Nat) (es:List Ex)|mth (c m:Str) (i:Nat) (a:Ex) (es:List Ex)
 |tup (es:List Ex)|lst (es:List Ex)|newl (es:List Ex)
 |idx (a i:Ex)|slc (a lo hi:Ex)
 |call (f:Nat) (es:List Ex)|bi (b:Bi) (es:List Ex)
 |app (a e:Ex)|ext (a e:Ex)
 |comp (elt:Ex) (tg:Tg) (k:dJ) (args:List Ex) (own:Nat) (out:List Nat)
 |compIf (elt:Ex) (tg:Tg) (k:dJ) (args:List Ex) (cond:Ex) (own:Nat) (out:List Nat)
inductive CH where|fn (es:List Ex)|me (c m:Str) (a:Ex) (es:List Ex)
inductive TM where|nm (i:Nat)|sb (a i:Ex)
inductive CT where|asg (i:Nat)|asgT (is:List Nat)|ret|exp
inductive Sx where
 |asg (i:Nat) (e:Ex)|asgT (is:List Nat) (e:Ex)|par (is:List Nat) (es:List Ex)|aug (i:Nat) (o:eD) (e:Ex)
 |exp (e:Ex)|ret (e:Ex)|retN|ite (c:Ex) (a b:List Sx)
 |for_ (tg:Tg) (k:dJ) (args:List Ex) (body:List Sx)|whl (c:Ex) (body:List Sx)|pass|brk|cnt
 |setf (c:Str) (a:Ex) (f:Str) (e:Ex)|seti (a i e:Ex)|augi (a i:Ex) (o:eD) (e:Ex)|augf (c:Str) (a:Ex) (f:Str) (o:eD) (e:Ex)
 |raise (c:Str) (args:List Ex)|calls (t:CT) (f:Nat) (args:CH)
structure fy where
 np:Nat
 nl:Nat
 body:List Sx
set_option genInjectivity true
noncomputable def fS(D:List (Str×Int)):List (Str×KTD.Dat):=D.map fun p=>(p.1,.flat (.int p.2))
abbrev sx:List Value:=[.type "ValueError",.type "Exception",.type "BaseException",.type "object"]
noncomputable def refOf:Option (Option Value)->Option Addr
 |some (some (.ref f))=>some f
 |_=>none
noncomputable def DP(K:PySem.W.Frag)(C:Addr):Bool:=decide (PySem.W.findIn K (.ref C) "__getattribute__"=some (some (.builtin "BaseException.__getattribute__")))&&(decide (PySem.W.findIn K (.ref C) "__getattr__"=some none)&&(decide (PySem.W.findIn K (.ref C) "__class__"=some (some (.builtin "object.__class__"))) &&
 (decide (PySem.W.subIn K (.ref C) (.type "object")=some true)&&(decide (PySem.W.subIn K (.ref C) (.type "BaseException")=some true)&&(PySem.W.clsIn K C).isSome))))
noncomputable def DQ(K:PySem.W.Frag)(D:Addr):Bool:=match K.lookup D with
 |some ⟨.type n,_,.cls _,_⟩=>n=="type"
 |_=>false
noncomputable def Ou(K:PySem.W.Frag)(c:Str)(tab:List (Str×PV)):Bool:=(refOf (PySem.W.nsIn K mainGlobals c)).any fun D=>(decide (PySem.W.subIn K (.ref D) (.type "BaseException")=some true)&&DQ K D) &&
 ((decide (PySem.W.nsIn K mainGlobals "isinstance"=some none)&&(decide (PySem.W.nsIn K mainGlobals "ValueError"=some none)&&decide (PySem.W.nsIn K mainGlobals "int"=some none)))&&tab.all fun y=>(refOf (PySem.W.nsIn K mainGlobals y.1)).any fun C=>
  (decide (PySem.W.subIn K (.ref C) (.ref D)=some true)&&DP K C)&&((decide (PySem.W.kitOne K (.ref C) (.ref D)=some true)&&decide (PySem.W.kitOne K (.ref C) (.type "ValueError")=some true)) &&
   tab.all fun z=>(refOf (PySem.W.nsIn K mainGlobals z.1)).any fun C2=>decide (PySem.W.kitOne K (.ref C) (.ref C2)=some (z.1==y.1))))
inductive GV where|con (p:PV)|tab (D:List (Str×Int))|fn (i:Nat)|blt|cls|own (i:Nat)
structure ax where
 name:Str
 qual:Str
 st:Stmt
 N:List Str
 ps:List Str
 d:fy
noncomputable def sy(ys:List Str)(o:Obj):Bool:=o.cls==.type "tuple"&&(match o.data with
 |.seq vs _=>KTD.flatsLook (ys.map PyData.str) vs.toList
 |_=>false)
noncomputable def tabLook(D:List (Str×Int))(a:Addr)(o:Obj):Bool:=!a==sysModules&&(o.cls==.type "dict"&&o.dict.isNone&&o.slots.isEmpty&&(match o.data with
 |.dict es _=>KTD.rowsLook (KTD.datLooks fun _=>none) es.toList (fS D)
 |_=>false))
noncomputable def dL(n:Nat)(h:Heap):PySem.W.Frag:=(List.range n).filterMap fun a=>(h.get? a).map fun o=>(a,o)
end Q
namespace Q
open PySem PySem.Spec PyProof.Rows L2 PySem.SeqAt
section
variable(K:PySem.W.Frag)(own:Str)(R:List ax)
noncomputable def ky(r:ax):Option (Option Value):=
 if r.name==r.qual then PySem.W.nsIn K mainGlobals r.name else (refOf (PySem.W.nsIn K mainGlobals own)).bind fun C=>PySem.W.findIn K (.ref C) r.name
noncomputable def dM(r:ax):Addr:=(refOf (ky K own r)).getD 0
noncomputable def jr(a:Addr):Option FuncData:=match K.lookup a with
 |some ⟨_,_,.func fd,_⟩=>some fd
 |_=>none
noncomputable def sA(fd:FuncData):FuncData:={ fd with kwdefaults:=.none,doc:=.none,pyModule:=.none,annotations:=none,code:=.none,closureTuple:=.none }
noncomputable def fT(r:ax):Bool:=(refOf (ky K own r)).isSome&&((jr K (dM K own r)).any fun fd=>PySem.W.codeIn K fd.code r.qual)&&(PySem.W.keepIn K (.ref (dM K own r))&&PySem.W.isFn K (.ref (dM K own r)))
noncomputable def kz:List (Option FuncData):=R.map fun r=>(jr K (dM K own r)).map sA
noncomputable def iJ:List (Option FuncData):=R.map fun r=>some (PySem.W.fnOf r.name r.qual (kr r.st) (fR r.st) (cL r.st) .none .none .none .none none .none .none)
noncomputable def gk:List PV->Option (List Str)
 |[]=>some []
 |.str x::l=>(gk l).map (x::·)
 |_=>none
noncomputable def sB(x:Str)(p:PV):Bool:=match p with
 |.int i=>(match PySem.W.nsIn K mainGlobals x with|some (some (.int j _))=>i==j|_=>false)
 |.tup xs=>(gk xs).any fun ys=>(refOf (PySem.W.nsIn K mainGlobals x)).any fun a=>(K.lookup a).any fun o=>sy ys o&&decide (ys.length<=1000)
 |_=>false
noncomputable def gB(x:Str):GV->Bool
 |.con p=>sB K x p
 |.blt=>decide (PySem.W.nsIn K mainGlobals x=some none)
 |.tab D=>(refOf (PySem.W.nsIn K mainGlobals x)).any fun a=>(K.lookup a).any fun o=>tabLook D a o
 |.cls=>(refOf (PySem.W.nsIn K mainGlobals x)).any fun C=>PySem.W.excIn K C sx "ValueError.__new__"
 |.fn i=>(R[i]?).any fun r=>r.name==r.qual&&r.name==x
 |.own i=>(R[i]?).any fun r=>!(r.name==r.qual)&&(r.name==("__init__":Str)&&(x==own&&((refOf (PySem.W.nsIn K mainGlobals own)).any fun C=>PySem.W.makesIn K C&&PySem.W.keepIn K (.ref C))))
noncomputable def nk(ats:List Str)(me:List (Str×Nat)):Bool:=(ats.isEmpty&&me.isEmpty)||((refOf (PySem.W.nsIn K mainGlobals own)).any fun C=>
 PySem.W.plainGet K C Str.empty&&PySem.W.hasDictIn K C&&(PySem.W.plainOver K C&&decide (PySem.W.findIn K (.ref C) "__setattr__"=some (some (.builtin "object.__setattr__")))) &&
  ((ats.all fun f=>decide (PySem.W.findIn K (.ref C) f=some none))&&me.all fun y=>(R[y.2]?).any fun r=>!(r.name==r.qual)&&r.name==y.1))
noncomputable def kA(G:List (Str×GV))(ats:List Str)(me:List (Str×Nat)):Bool:=(R.all fun r=>fT K own r)&&((G.all fun y=>gB K own R y.1 y.2)&&nk K own R ats me)
end
end Q
set_option genInjectivity false
namespace QL
open PySem PySem.Spec PyProof.Rows L2 PySem.SeqAt Q
noncomputable def top(i:Nat):Stmt:=PySem.Challenge.pw_soundroad_k37_whole_asked_twice.main.body.getD i (.Pass ⟨0,0,0,0⟩)
noncomputable def sub(i j:Nat):Stmt:=match top i with|.ClassDef _ _ _ body _ _ _ _ _ _ _=>body.getD j (.Pass ⟨0,0,0,0⟩)|_=>.Pass ⟨0,0,0,0⟩
noncomputable def G:List (Str×GV):=("common_divisor",.fn 0)::("fraction",.fn 1)::("bends_up",.fn 2)::("corners_under",.fn 3)::("edge_at_mean",.fn 4)::("line_under",.fn 5)::("height_above",.fn 6)::("straight",.fn 7)::("near",.fn 8)::("unrolled",.fn 9)::("rolled",.fn 10)::("two_bytes",.fn 11)::("number_at",.fn 12)::("check_of",.fn 13)::("packed",.fn 14)::("count_fits",.fn 15)::("sounds_of",.fn 16)::("unpacked",.fn 17)::("level_at",.fn 18)::("summed",.fn 19)::("rebuilt",.fn 20)::("back_if_alone",.fn 21)::("piece_at",.fn 22)::("healed_row",.fn 23)::("healed_once",.fn 24)::("healed",.fn 25)::("going_over",.fn 26)::("half_as_loud",.fn 27)::("delays_of",.fn 40)::("late",.fn 41)::("least_wait",.fn 42)::("unrest",.fn 43)::("step_cost",.fn 44)::("cheapest_with",.fn 45)::("plan",.fn 46)::("_law_draw",.fn 47)::("_law_pick",.fn 48)::("_law_sounds",.fn 49)::("_law_deed",.fn 50)::("_law_do",.fn 51)::("_law_first",.fn 52)::("_law_second",.fn 53)::("law",.fn 54)::("ROUND",.con (.int 65536))::("FARTHEST_BACK",.con (.int 32768))::("BYTE_ROUND",.con (.int 256))::("CHECK_ROUND",.con (.int 257))::("LOUDEST",.con (.int 1000))::("MOST_SOUNDS",.con (.int 16))::("COUNT_PLACE",.con (.int 2))::("SOUNDS_PLACE",.con (.int 3))::("SIZE_WITHOUT_SOUNDS",.con (.int 5))::("LEVELS",.con (.int 2001))::("LOST_TILL_STOP",.con (.int 3))::("UNREST_PART",.con (.int 16))::("UNREST_HALF",.con (.int 8))::("SEEN",.con (.tup ([.str "kept",.str "late",.str "twice",.str "far",.str "played",.str "joined",.str "stretched",.str "lost",.str "silent"])))::("STEPS",.tab [("played",1),("joined",2),("stretched",0),("lost",1),("silent",0)])::("tuple",.blt)::("len",.blt)::("any",.blt)::("sum",.blt)::("abs",.blt)::("min",.blt)::("max",.blt)::("list",.blt)::("zip",.blt)::("range",.blt)::("enumerate",.blt)::("sorted",.blt)::("set",.blt)::("repr",.blt)::("ValueError",.blt)::("RoadError",.cls)::("BadBytes",.cls)::("NoLine",.cls)::("BadSounds",.cls)::("Player",.own 28)::[]
noncomputable def mt:List (Nat×Nat):=[(26,14),(63,12),(84,10),(309,16)]
noncomputable def rs:List Nat:=[5,7,17,29,51,52,53]
noncomputable def own:Str:="Player"
noncomputable def ats:List Str:=["due","first","has_played","kept","last","lost_in_row","most","playing","size","tally","way_ahead"]
noncomputable def me:List (Str×Nat):=[("put",29),("fate_of",30),("keep",31),("take",32),("begin_if_enough",33),("way_of_take",34),("sounds_by",35),("step_on",36),("stop_if_lost",37),("waiting",38),("seen",39)]
noncomputable def sC:List Sx:=[.asg 2 (.bin .mod (.loc 0) (.loc 1)),.asg 0 (.loc 1),.asg 1 (.loc 2)]
noncomputable def b0:List Sx:=[.whl (.cmp .ne (.loc 1) (.cst (.int 0))) sC,.ret (.loc 0)]
noncomputable def r0:ax:=⟨"common_divisor","common_divisor",top 6,["one","other","rest"],["one","other"],⟨2,3,b0⟩⟩
noncomputable def b1:List Sx:=[.asg 2 (.call 0 [.loc 0,.loc 1]),.ret (.tup [.bin .fdiv (.loc 0) (.loc 2),.bin .fdiv (.loc 1) (.loc 2)])]
noncomputable def r1:ax:=⟨"fraction","fraction",top 7,["upper","lower","divisor"],["upper","lower"],⟨2,3,b1⟩⟩
noncomputable def b2:List Sx:=[.ret (.cmp .lt (.bin .mul (.bin .sub (.idx (.loc 1) (.cst (.int 1))) (.idx (.loc 0) (.cst (.int 1)))) (.bin .sub (.idx (.loc 2) (.cst (.int 0))) (.idx (.loc 1) (.cst (.int 0))))) (.bin .mul (.bin .sub (.idx (.loc 2) (.cst (.int 1))) (.idx (.loc 1) (.cst (.int 1)))) (.bin .sub (.idx (.loc 1) (.cst (.int 0))) (.idx (.loc 0) (.cst (.int 0))))))]
noncomputable def r2:ax:=⟨"bends_up","bends_up",top 8,["one","two","three"],["one","two","three"],⟨3,3,b2⟩⟩
noncomputable def nq:List Sx:=[.seti (.loc 1) (.loc 2) (.bi .min2 [.loc 3,.get2 (.loc 1) (.loc 2) (.loc 3)])]
noncomputable def sD:List Sx:=[.exp (.pop0 (.loc 4))]
noncomputable def lS:List Sx:=[.asg 5 (.tup [.loc 2,.idx (.loc 1) (.loc 2)]),.whl (.and (.cmp .gt (.bi .len [.loc 4]) (.cst (.int 1))) (.not (.call 2 [.idx (.loc 4) (.neg (.cst (.int 2))),.idx (.loc 4) (.neg (.cst (.int 1))),.loc 5]))) sD,.exp (.app (.loc 4) (.loc 5))]
noncomputable def b3:List Sx:=[.asg 1 (.dnew [] []),.for_ (.many [2,3]) .seq [.loc 0] nq,.asg 4 (.newl []),.for_ (.one 2) .seq [.bi .sorted [.loc 1]] lS,.ret (.loc 4)]
noncomputable def r3:ax:=⟨"corners_under","corners_under",top 9,["rows","lowest","sent","came","corners","point"],["rows"],⟨1,6,b3⟩⟩
noncomputable def sE:List Sx:=[.aug 3 .add (.cst (.int 1))]
noncomputable def b4:List Sx:=[.asg 1 (.call 3 [.loc 0]),.asg 2 (.bi .sum [.comp (.loc 0) (.many [0,1]) .seq [.loc 0] 2 []]),.asg 3 (.cst (.int 1)),.whl (.cmp .lt (.bin .mul (.idx (.idx (.loc 1) (.loc 3)) (.cst (.int 0))) (.bi .len [.loc 0])) (.loc 2)) sE,.ret (.tup [.idx (.loc 1) (.bin .sub (.loc 3) (.cst (.int 1))),.idx (.loc 1) (.loc 3)])]
noncomputable def r4:ax:=⟨"edge_at_mean","edge_at_mean",top 10,["rows","corners","total","k"],["rows"],⟨1,4,b4⟩⟩
noncomputable def DR:Str:={ cps:=#[78,111,76,105,110,101] }
noncomputable def DU:Str:={ cps:=#[97,32,108,105,110,101,32,110,101,101,100,115,32,114,111,119,115,32,119,105,116,104,32,116,119,111,32,117,110,108,105,107,101,32,116,105,109,101,115,32,111,102,32,115,101,110,100,105,110,103] }
noncomputable def b5:List Sx:=[.ite (.cmp .lt (.lset (.comp (.loc 0) (.many [0,1]) .seq [.loc 0] 2 [])) (.cst (.int 2))) [.raise DR [.cst (.str DU)]] [],.asg 1 (.call 4 [.loc 0]),.asg 2 (.idx (.loc 1) (.cst (.int 0))),.asg 3 (.bin .sub (.idx (.idx (.loc 1) (.cst (.int 1))) (.cst (.int 0))) (.idx (.loc 2) (.cst (.int 0)))),.asg 4 (.bin .sub (.idx (.idx (.loc 1) (.cst (.int 1))) (.cst (.int 1))) (.idx (.loc 2) (.cst (.int 1)))),.ret (.tup [.call 1 [.loc 4,.loc 3],.call 1 [.bin .sub (.bin .mul (.idx (.loc 2) (.cst (.int 1))) (.loc 3)) (.bin .mul (.loc 4) (.idx (.loc 2) (.cst (.int 0)))),.loc 3]])]
noncomputable def r5:ax:=⟨"line_under","line_under",top 11,["rows","edge","start","run","rise"],["rows"],⟨1,5,b5⟩⟩
noncomputable def b6:List Sx:=[.asg 3 (.idx (.loc 0) (.cst (.int 0))),.asg 4 (.idx (.loc 0) (.cst (.int 1))),.asg 5 (.bin .sub (.bin .sub (.bin .mul (.bin .mul (.loc 2) (.idx (.loc 3) (.cst (.int 1)))) (.idx (.loc 4) (.cst (.int 1)))) (.bin .mul (.bin .mul (.idx (.loc 3) (.cst (.int 0))) (.loc 1)) (.idx (.loc 4) (.cst (.int 1))))) (.bin .mul (.idx (.loc 4) (.cst (.int 0))) (.idx (.loc 3) (.cst (.int 1))))),.ret (.neg (.bin .fdiv (.neg (.loc 5)) (.bin .mul (.idx (.loc 3) (.cst (.int 1))) (.idx (.loc 4) (.cst (.int 1))))))]
noncomputable def r6:ax:=⟨"height_above","height_above",top 12,["line","sent","came","slope","height","upper"],["line","sent","came"],⟨3,6,b6⟩⟩
noncomputable def b7:List Sx:=[.calls (.asg 1) 5 (.fn [.loc 0]),.ret (.bi .tuple [.comp (.call 6 [.loc 2,.loc 0,.loc 1]) (.many [0,1]) .seq [.loc 0] 2 [1]])]
noncomputable def r7:ax:=⟨"straight","straight",top 13,["rows","line"],["rows"],⟨1,2,b7⟩⟩
noncomputable def b8:List Sx:=[.asg 2 (.bin .sub (.loc 0) (.cst (.int 32768))),.ret (.bin .add (.loc 2) (.bin .mod (.bin .sub (.loc 1) (.loc 2)) (.cst (.int 65536))))]
noncomputable def r8:ax:=⟨"near","near",top 17,["last","short","lowest"],["last","short"],⟨2,3,b8⟩⟩
noncomputable def sF:List Sx:=[.exp (.app (.loc 1) (.ife (.loc 1) (.call 8 [.idx (.loc 1) (.neg (.cst (.int 1))),.loc 2]) (.loc 2)))]
noncomputable def b9:List Sx:=[.asg 1 (.newl []),.for_ (.one 2) .seq [.loc 0] sF,.ret (.bi .tuple [.loc 1])]
noncomputable def r9:ax:=⟨"unrolled","unrolled",top 18,["shorts","longs","short"],["shorts"],⟨1,3,b9⟩⟩
noncomputable def sG:List Sx:=[.ret (.bi .tuple [.comp (.bin .mod (.loc 0) (.cst (.int 65536))) (.one 0) .seq [.loc 0] 1 []])]
noncomputable def xI:ax:=⟨"rolled","rolled",top 19,["longs"],["longs"],⟨1,1,sG⟩⟩
noncomputable def sH:List Sx:=[.ret (.tup [.bin .mod (.bin .fdiv (.loc 0) (.cst (.int 256))) (.cst (.int 256)),.bin .mod (.loc 0) (.cst (.int 256))])]
noncomputable def xJ:ax:=⟨"two_bytes","two_bytes",top 28,["number"],["number"],⟨1,1,sH⟩⟩
noncomputable def sI:List Sx:=[.ret (.bin .add (.bin .mul (.idx (.loc 0) (.loc 1)) (.cst (.int 256))) (.idx (.loc 0) (.bin .add (.loc 1) (.cst (.int 1)))))]
noncomputable def xK:ax:=⟨"number_at","number_at",top 29,["row","place"],["row","place"],⟨2,2,sI⟩⟩
noncomputable def sJ:List Sx:=[.ret (.bin .mod (.bi .sum [.comp (.bin .mul (.loc 0) (.loc 1)) (.many [0,1]) .enumK [.loc 0,.cst (.int 1)] 2 []]) (.cst (.int 257)))]
noncomputable def xL:ax:=⟨"check_of","check_of",top 30,["row"],["row"],⟨1,1,sJ⟩⟩
noncomputable def sK:List Sx:=[.exp (.ext (.loc 2) (.call 11 [.bin .add (.loc 3) (.cst (.int 1000))]))]
noncomputable def sL:List Sx:=[.asg 2 (.bi .listN [.call 11 [.loc 0]]),.exp (.app (.loc 2) (.bi .len [.loc 1])),.for_ (.one 3) .seq [.loc 1] sK,.exp (.ext (.loc 2) (.call 11 [.call 13 [.loc 2]])),.ret (.bi .tuple [.loc 2])]
noncomputable def xM:ax:=⟨"packed","packed",top 31,["number","sounds","row","sound"],["number","sounds"],⟨2,4,sL⟩⟩
noncomputable def sM:List Sx:=[.ite (.cmp .lt (.bi .len [.loc 0]) (.cst (.int 5))) [.ret (.cst (.bl false))] [],.asg 1 (.idx (.loc 0) (.cst (.int 2))),.ret (.and (.cmp .le (.loc 1) (.cst (.int 16))) (.cmp .eq (.bi .len [.loc 0]) (.bin .add (.cst (.int 5)) (.bin .mul (.cst (.int 2)) (.loc 1)))))]
noncomputable def xN:ax:=⟨"count_fits","count_fits",top 32,["row","count"],["row"],⟨1,2,sM⟩⟩
noncomputable def sN:List Sx:=[.asg 1 (.comp (.bin .add (.cst (.int 3)) (.bin .mul (.cst (.int 2)) (.loc 0))) (.one 0) .range [.idx (.loc 0) (.cst (.int 2))] 1 []),.ret (.bi .tuple [.comp (.bin .sub (.call 12 [.loc 1,.loc 0]) (.cst (.int 1000))) (.one 0) .seq [.loc 1] 1 [0]])]
noncomputable def xO:ax:=⟨"sounds_of","sounds_of",top 33,["row","places"],["row"],⟨1,2,sN⟩⟩
noncomputable def sO:Str:={ cps:=#[66,97,100,66,121,116,101,115] }
noncomputable def DV:Str:={ cps:=#[116,104,101,32,99,111,117,110,116,32,111,102,32,115,111,117,110,100,115,32,100,111,101,115,32,110,111,116,32,102,105,116,32,116,104,101,32,98,121,116,101,115] }
noncomputable def DX:Str:={ cps:=#[97,32,115,111,117,110,100,32,105,115,32,116,111,111,32,108,111,117,100] }
noncomputable def DY:Str:={ cps:=#[116,104,101,32,99,104,101,99,107,32,100,111,101,115,32,110,111,116,32,102,105,116,32,116,104,101,32,98,121,116,101,115] }
noncomputable def sP:List Sx:=[.ite (.not (.call 15 [.loc 0])) [.raise sO [.cst (.str DV)]] [],.asg 1 (.call 12 [.loc 0,.cst (.int 0)]),.asg 2 (.call 16 [.loc 0]),.ite (.bi .any [.comp (.cmp .gt (.loc 0) (.cst (.int 1000))) (.one 0) .seq [.loc 2] 1 []]) [.raise sO [.cst (.str DX)]] [],.ite (.cmp .ne (.call 14 [.loc 1,.loc 2]) (.loc 0)) [.raise sO [.cst (.str DY)]] [],.ret (.tup [.loc 1,.loc 2])]
noncomputable def xP:ax:=⟨"unpacked","unpacked",top 34,["row","number","sounds"],["row"],⟨1,3,sP⟩⟩
noncomputable def sQ:List Sx:=[.ret (.bi .sum [.comp (.bin .add (.idx (.loc 0) (.loc 1)) (.cst (.int 1000))) (.one 0) .seq [.loc 0] 1 [1]])]
noncomputable def xQ:ax:=⟨"level_at","level_at",top 37,["rows","place"],["rows","place"],⟨2,2,sQ⟩⟩
noncomputable def sR:List Sx:=[.asg 1 (.ife (.loc 0) (.bi .len [.idx (.loc 0) (.cst (.int 0))]) (.cst (.int 0))),.ret (.bi .tuple [.comp (.bin .sub (.bin .mod (.call 18 [.loc 1,.loc 0]) (.cst (.int 2001))) (.cst (.int 1000))) (.one 0) .range [.loc 1] 1 [0]])]
noncomputable def xR:ax:=⟨"summed","summed",top 38,["rows","size"],["rows"],⟨1,2,sR⟩⟩
noncomputable def sS:List Sx:=[.asg 2 (.comp (.bin .sub (.call 18 [.tup [.loc 2],.loc 0]) (.call 18 [.loc 1,.loc 0])) (.one 0) .range [.bi .len [.loc 1]] 1 [0,1]),.ret (.bi .tuple [.comp (.bin .sub (.bin .mod (.loc 0) (.cst (.int 2001))) (.cst (.int 1000))) (.one 0) .seq [.loc 2] 1 []])]
noncomputable def xS:ax:=⟨"rebuilt","rebuilt",top 39,["rows","total","levels"],["rows","total"],⟨2,3,sS⟩⟩
noncomputable def sT:List Sx:=[.asg 2 (.compIf (.loc 0) (.one 0) .seq [.loc 0] (.isnn (.loc 0)) 1 []),.ite (.cmp .eq (.bi .len [.loc 2]) (.bin .sub (.bi .len [.loc 0]) (.cst (.int 1)))) [.ret (.call 20 [.loc 2,.loc 1])] [],.ret (.cst .non)]
noncomputable def xU:ax:=⟨"back_if_alone","back_if_alone",top 40,["pieces","total","others"],["pieces","total"],⟨2,3,sT⟩⟩
noncomputable def sU:List Sx:=[.asg 4 (.idx (.loc 0) (.idx (.loc 1) (.cst (.int 0)))),.asg 5 (.idx (.loc 4) (.idx (.loc 1) (.cst (.int 1)))),.ite (.isn (.loc 5)) [.asg 5 (.call 21 [.loc 4,.idx (.loc 2) (.idx (.loc 1) (.cst (.int 0)))])] [],.ite (.isn (.loc 5)) [.asg 5 (.call 21 [.comp (.idx (.loc 0) (.idx (.loc 1) (.cst (.int 1)))) (.one 0) .seq [.loc 0] 1 [1],.idx (.loc 3) (.idx (.loc 1) (.cst (.int 1)))])] [],.ret (.loc 5)]
noncomputable def xV:ax:=⟨"piece_at","piece_at",top 41,["field","place","across","down","row","piece"],["field","place","across","down"],⟨4,6,sU⟩⟩
noncomputable def sV:List Sx:=[.ret (.bi .tuple [.comp (.call 22 [.loc 3,.tup [.loc 4,.loc 0],.loc 1,.loc 2]) (.one 0) .range [.bi .len [.idx (.loc 0) (.loc 1)]] 1 [2,3,0,1]])]
noncomputable def xW:ax:=⟨"healed_row","healed_row",top 42,["field","k","across","down"],["field","k","across","down"],⟨4,4,sV⟩⟩
noncomputable def sW:List Sx:=[.ret (.bi .tuple [.comp (.call 23 [.loc 3,.loc 0,.loc 1,.loc 2]) (.one 0) .range [.bi .len [.loc 0]] 1 [1,2,0]])]
noncomputable def xX:ax:=⟨"healed_once","healed_once",top 43,["field","across","down"],["field","across","down"],⟨3,3,sW⟩⟩
noncomputable def xY:List Sx:=[.asg 3 (.loc 4),.asg 4 (.call 24 [.loc 3,.loc 1,.loc 2])]
noncomputable def sX:List Sx:=[.asg 3 (.loc 0),.asg 4 (.call 24 [.loc 3,.loc 1,.loc 2]),.whl (.cmp .ne (.loc 4) (.loc 3)) xY,.ret (.loc 3)]
noncomputable def xZ:ax:=⟨"healed","healed",top 44,["rows","across","down","field","better"],["rows","across","down"],⟨3,5,sX⟩⟩
noncomputable def sY:List Sx:=[.asg 2 (.bi .len [.loc 0]),.ret (.bi .tuple [.comp (.bin .fdiv (.bin .add (.bin .mul (.idx (.loc 1) (.loc 0)) (.bin .sub (.loc 3) (.loc 0))) (.bin .mul (.idx (.loc 2) (.loc 0)) (.loc 0))) (.loc 3)) (.one 0) .range [.loc 2] 1 [0,1,2]])]
noncomputable def x3:ax:=⟨"going_over","going_over",top 49,["one","other","size"],["one","other"],⟨2,3,sY⟩⟩
noncomputable def sZ:List Sx:=[.ret (.bi .tuple [.comp (.ife (.cmp .lt (.loc 0) (.cst (.int 0))) (.neg (.bin .fdiv (.neg (.loc 0)) (.cst (.int 2)))) (.bin .fdiv (.loc 0) (.cst (.int 2)))) (.one 0) .seq [.loc 0] 1 []])]
noncomputable def x4:ax:=⟨"half_as_loud","half_as_loud",top 50,["sounds"],["sounds"],⟨1,1,sZ⟩⟩
noncomputable def am:Str:={ cps:=#[80,108,97,121,101,114] }
noncomputable def lT:Str:={ cps:=#[115,105,122,101] }
noncomputable def kB:Str:={ cps:=#[102,105,114,115,116] }
noncomputable def nr:Str:={ cps:=#[109,111,115,116] }
noncomputable def bH:Str:={ cps:=#[107,101,112,116] }
noncomputable def cM:Str:={ cps:=#[100,117,101] }
noncomputable def gp:Str:={ cps:=#[112,108,97,121,105,110,103] }
noncomputable def kC:Str:={ cps:=#[104,97,115,95,112,108,97,121,101,100] }
noncomputable def g7:Str:={ cps:=#[108,97,115,116] }
noncomputable def kD:Str:={ cps:=#[119,97,121,95,97,104,101,97,100] }
noncomputable def dv:Str:={ cps:=#[115,105,108,101,110,116] }
noncomputable def gq:Str:={ cps:=#[108,111,115,116,95,105,110,95,114,111,119] }
noncomputable def iK:Str:={ cps:=#[116,97,108,108,121] }
noncomputable def ju:Str:={ cps:=#[108,97,116,101] }
noncomputable def jv:Str:={ cps:=#[116,119,105,99,101] }
noncomputable def jw:Str:={ cps:=#[102,97,114] }
noncomputable def eW:Str:={ cps:=#[112,108,97,121,101,100] }
noncomputable def eE:Str:={ cps:=#[106,111,105,110,101,100] }
noncomputable def dw:Str:={ cps:=#[115,116,114,101,116,99,104,101,100] }
noncomputable def dy:Str:={ cps:=#[108,111,115,116] }
noncomputable def qf:List Sx:=[.seti (.fld am (.loc 0) iK) (.loc 4) (.cst (.int 0))]
noncomputable def lU:List Sx:=[.setf am (.loc 0) lT (.loc 1),.setf am (.loc 0) kB (.loc 2),.setf am (.loc 0) nr (.loc 3),.setf am (.loc 0) bH (.dnew [] []),.setf am (.loc 0) cM (.cst .non),.setf am (.loc 0) gp (.cst (.bl false)),.setf am (.loc 0) kC (.cst (.bl false)),.setf am (.loc 0) g7 (.bin .mul (.tup [.cst (.int 0)]) (.loc 1)),.setf am (.loc 0) kD (.cst (.str dv)),.setf am (.loc 0) gq (.cst (.int 0)),.setf am (.loc 0) iK (.dnew [] []),.for_ (.one 4) .seq [.cst (.tup [.str bH,.str ju,.str jv,.str jw,.str eW,.str eE,.str dw,.str dy,.str dv])] qf]
noncomputable def x7:ax:=⟨"__init__","Player.__init__",sub 51 0,["self","size","first","most","kind"],["self","size","first","most"],⟨4,5,lU⟩⟩
noncomputable def DZ:Str:={ cps:=#[66,97,100,83,111,117,110,100,115] }
noncomputable def D0:Str:={ cps:=#[97,32,112,105,101,99,101,32,104,97,115,32,97,110,111,116,104,101,114,32,99,111,117,110,116,32,111,102,32,115,111,117,110,100,115,32,116,104,97,110,32,116,104,101,32,112,108,97,121,101,114] }
noncomputable def x8:Str:={ cps:=#[102,97,116,101,95,111,102] }
noncomputable def x9:Str:={ cps:=#[107,101,101,112] }
noncomputable def jx:List Sx:=[.ite (.cmp .ne (.bi .len [.loc 2]) (.fld am (.loc 0) lT)) [.raise DZ [.cst (.str D0)]] [],.asg 3 (.ife (.isn (.fld am (.loc 0) cM)) (.loc 1) (.call 8 [.fld am (.loc 0) cM,.loc 1])),.asg 4 (.mth am x8 30 (.loc 0) [.loc 3]),.ite (.cmp .eq (.loc 4) (.cst (.str bH))) [.exp (.mth am x9 31 (.loc 0) [.loc 3,.loc 2])] [],.augi (.fld am (.loc 0) iK) (.loc 4) .add (.cst (.int 1)),.ret (.loc 4)]
noncomputable def x_:ax:=⟨"put","Player.put",sub 51 1,["self","short","sounds","number","fate"],["self","short","sounds"],⟨3,5,jx⟩⟩
noncomputable def s8:List Sx:=[.ite (.cmp .inn (.loc 1) (.fld am (.loc 0) bH)) [.ret (.cst (.str jv))] [],.ite (.and (.fld am (.loc 0) kC) (.cmp .lt (.loc 1) (.fld am (.loc 0) cM))) [.ret (.cst (.str ju))] [],.ite (.and (.or (.fld am (.loc 0) gp) (.cmp .gt (.bi .len [.fld am (.loc 0) bH]) (.cst (.int 0)))) (.cmp .ge (.loc 1) (.bin .add (.fld am (.loc 0) cM) (.fld am (.loc 0) nr)))) [.ret (.cst (.str jw))] [],.ret (.cst (.str bH))]
noncomputable def ye:ax:=⟨"fate_of","Player.fate_of",sub 51 2,["self","number"],["self","number"],⟨2,2,s8⟩⟩
noncomputable def qg:List Sx:=[.asg 3 (.and (.not (.fld am (.loc 0) gp)) (.cmp .eq (.bi .len [.fld am (.loc 0) bH]) (.cst (.int 0)))),.ite (.or (.loc 3) (.cmp .lt (.loc 1) (.fld am (.loc 0) cM))) [.setf am (.loc 0) cM (.loc 1)] [],.seti (.fld am (.loc 0) bH) (.loc 1) (.loc 2)]
noncomputable def yf:ax:=⟨"keep","Player.keep",sub 51 3,["self","number","sounds","alone"],["self","number","sounds"],⟨3,4,qg⟩⟩
noncomputable def yg:Str:={ cps:=#[98,101,103,105,110,95,105,102,95,101,110,111,117,103,104] }
noncomputable def yh:Str:={ cps:=#[119,97,121,95,111,102,95,116,97,107,101] }
noncomputable def yi:Str:={ cps:=#[115,111,117,110,100,115,95,98,121] }
noncomputable def yj:Str:={ cps:=#[115,116,101,112,95,111,110] }
noncomputable def yk:Str:={ cps:=#[115,116,111,112,95,105,102,95,108,111,115,116] }
noncomputable def s9:List Sx:=[.exp (.mth am yg 33 (.loc 0) []),.asg 1 (.mth am yh 34 (.loc 0) []),.setf am (.loc 0) g7 (.mth am yi 35 (.loc 0) [.loc 1]),.exp (.mth am yj 36 (.loc 0) [.loc 1]),.exp (.mth am yk 37 (.loc 0) [.loc 1]),.setf am (.loc 0) kD (.loc 1),.augi (.fld am (.loc 0) iK) (.loc 1) .add (.cst (.int 1)),.ret (.fld am (.loc 0) g7)]
noncomputable def yl:ax:=⟨"take","Player.take",sub 51 4,["self","way"],["self"],⟨1,2,s9⟩⟩
noncomputable def nu:List Sx:=[.ite (.and (.not (.fld am (.loc 0) gp)) (.cmp .ge (.bi .len [.fld am (.loc 0) bH]) (.bi .max2 [.fld am (.loc 0) kB,.cst (.int 1)]))) [.setf am (.loc 0) gp (.cst (.bl true)),.setf am (.loc 0) kC (.cst (.bl true)),.setf am (.loc 0) cM (.bi .min2 [.bi .list [.fld am (.loc 0) bH]])] []]
noncomputable def ym:ax:=⟨"begin_if_enough","Player.begin_if_enough",sub 51 5,["self"],["self"],⟨1,1,nu⟩⟩
noncomputable def nv:List Sx:=[.ite (.not (.fld am (.loc 0) gp)) [.ret (.cst (.str dv))] [],.ite (.cmp .notin (.fld am (.loc 0) cM) (.fld am (.loc 0) bH)) [.ret (.cst (.str dy))] [],.ite (.and (.cmp .gt (.bi .len [.fld am (.loc 0) bH]) (.bin .add (.fld am (.loc 0) kB) (.cst (.int 1)))) (.cmp .inn (.bin .add (.fld am (.loc 0) cM) (.cst (.int 1))) (.fld am (.loc 0) bH))) [.ret (.cst (.str eE))] [],.ite (.and (.cmp .eq (.bi .len [.fld am (.loc 0) bH]) (.cst (.int 1))) (.and (.cmp .gt (.fld am (.loc 0) kB) (.cst (.int 1))) (.cmp .ne (.fld am (.loc 0) kD) (.cst (.str dw))))) [.ret (.cst (.str dw))] [],.ret (.cst (.str eW))]
noncomputable def yn:ax:=⟨"way_of_take","Player.way_of_take",sub 51 6,["self"],["self"],⟨1,1,nv⟩⟩
noncomputable def kE:List Sx:=[.ite (.cmp .eq (.loc 1) (.cst (.str dv))) [.ret (.bin .mul (.tup [.cst (.int 0)]) (.fld am (.loc 0) lT))] [],.ite (.cmp .eq (.loc 1) (.cst (.str dy))) [.ret (.call 27 [.fld am (.loc 0) g7])] [],.ite (.cmp .eq (.loc 1) (.cst (.str eE))) [.ret (.call 26 [.idx (.fld am (.loc 0) bH) (.fld am (.loc 0) cM),.idx (.fld am (.loc 0) bH) (.bin .add (.fld am (.loc 0) cM) (.cst (.int 1)))])] [],.ite (.cmp .eq (.loc 1) (.cst (.str dw))) [.ret (.call 26 [.fld am (.loc 0) g7,.idx (.fld am (.loc 0) bH) (.fld am (.loc 0) cM)])] [],.ret (.idx (.fld am (.loc 0) bH) (.fld am (.loc 0) cM))]
noncomputable def yo:ax:=⟨"sounds_by","Player.sounds_by",sub 51 7,["self","way"],["self","way"],⟨2,2,kE⟩⟩
noncomputable def qh:List Sx:=[.exp (.pop2 (.fld am (.loc 0) bH) (.fld am (.loc 0) cM) (.cst .non)),.augf am (.loc 0) cM .add (.cst (.int 1))]
noncomputable def kF:List Sx:=[.for_ (.one 2) .range [.tabx [(eW,1),(eE,2),(dw,0),(dy,1),(dv,0)] (.loc 1)] qh]
noncomputable def yp:ax:=⟨"step_on","Player.step_on",sub 51 8,["self","way","step"],["self","way"],⟨2,3,kF⟩⟩
noncomputable def jy:List Sx:=[.setf am (.loc 0) gq (.ife (.cmp .eq (.loc 1) (.cst (.str dy))) (.bin .add (.fld am (.loc 0) gq) (.cst (.int 1))) (.cst (.int 0))),.ite (.and (.cmp .eq (.fld am (.loc 0) gq) (.cst (.int 3))) (.cmp .eq (.bi .len [.fld am (.loc 0) bH]) (.cst (.int 0)))) [.setf am (.loc 0) gp (.cst (.bl false))] []]
noncomputable def yq:ax:=⟨"stop_if_lost","Player.stop_if_lost",sub 51 9,["self","way"],["self","way"],⟨2,2,jy⟩⟩
noncomputable def s_:List Sx:=[.ret (.bi .tuple [.bi .sorted [.fld am (.loc 0) bH]])]
noncomputable def yr:ax:=⟨"waiting","Player.waiting",sub 51 10,["self"],["self"],⟨1,1,s_⟩⟩
noncomputable def tf:List Sx:=[.ret (.bi .tuple [.comp (.idx (.fld am (.loc 1) iK) (.loc 0)) (.one 0) .seq [.cst (.tup [.str bH,.str ju,.str jv,.str jw,.str eW,.str eE,.str dw,.str dy,.str dv])] 1 [0]])]
noncomputable def yt:ax:=⟨"seen","Player.seen",sub 51 11,["self"],["self"],⟨1,1,tf⟩⟩
noncomputable def tj:List Sx:=[.ret (.comp (.bin .sub (.loc 1) (.loc 0)) (.many [0,1]) .seq [.loc 0] 2 [])]
noncomputable def yu:ax:=⟨"delays_of","delays_of",top 55,["rows"],["rows"],⟨1,1,tj⟩⟩
noncomputable def tm:List Sx:=[.ret (.bi .len [.compIf (.loc 0) (.one 0) .seq [.call 40 [.loc 0]] (.cmp .gt (.loc 0) (.loc 1)) 1 [1]])]
noncomputable def yw:ax:=⟨"late","late",top 56,["rows","wait"],["rows","wait"],⟨2,2,tm⟩⟩
noncomputable def nw:List Sx:=[.ite (.or (.cmp .lt (.loc 1) (.cst (.int 0))) (.cmp .ge (.loc 1) (.bi .len [.loc 0]))) [.ret (.cst .non)] [],.ret (.idx (.bi .sortedR [.call 40 [.loc 0]]) (.loc 1))]
noncomputable def tu:ax:=⟨"least_wait","least_wait",top 57,["rows","many"],["rows","many"],⟨2,2,nw⟩⟩
noncomputable def tB:List Sx:=[.asg 2 (.bin .sub (.bin .add (.loc 2) (.bi .abs [.bin .sub (.idx (.loc 1) (.loc 3)) (.idx (.loc 1) (.bin .sub (.loc 3) (.cst (.int 1))))])) (.bin .fdiv (.bin .add (.loc 2) (.cst (.int 8))) (.cst (.int 16))))]
noncomputable def tD:List Sx:=[.asg 1 (.call 40 [.loc 0]),.asg 2 (.cst (.int 0)),.for_ (.one 3) .range [.cst (.int 1),.bi .len [.loc 1]] tB,.ret (.loc 2)]
noncomputable def yx:ax:=⟨"unrest","unrest",top 58,["rows","delays","told","k"],["rows"],⟨1,4,tD⟩⟩
noncomputable def qi:List Sx:=[.ret (.ife (.loc 0) (.bin .mul (.loc 2) (.bi .abs [.bin .sub (.loc 1) (.idx (.loc 0) (.neg (.cst (.int 1))))])) (.cst (.int 0)))]
noncomputable def yy:ax:=⟨"step_cost","step_cost",top 59,["waits","wait","change"],["waits","wait","change"],⟨3,3,qi⟩⟩
noncomputable def tE:List Sx:=[.asg 4 (.comp (.tup [.bin .add (.loc 0) (.call 44 [.loc 1,.loc 3,.loc 2]),.loc 1]) (.many [0,1]) .seq [.loc 0] 2 [3,1]),.asg 5 (.bi .min2 [.loc 4]),.ret (.tup [.bin .add (.idx (.loc 5) (.cst (.int 0))) (.loc 2),.bin .add (.idx (.loc 5) (.cst (.int 1))) (.tup [.loc 1])])]
noncomputable def yz:ax:=⟨"cheapest_with","cheapest_with",top 60,["plans","wait","own_cost","change","longer","best"],["plans","wait","own_cost","change"],⟨4,6,tE⟩⟩
noncomputable def tF:List Sx:=[.asg 4 (.comp (.call 45 [.loc 3,.loc 0,.bin .add (.loc 0) (.bin .mul (.loc 2) (.call 41 [.loc 4,.loc 0])),.loc 1]) (.one 0) .range [.bin .add (.bi .max2 [.loc 3,.cst (.int 0)]) (.cst (.int 1))] 1 [2,1,4,5])]
noncomputable def tG:List Sx:=[.asg 4 (.lst [.tup [.cst (.int 0),.tup []]]),.for_ (.one 5) .seq [.loc 0] tF,.ret (.bi .min2 [.loc 4])]
noncomputable def yA:ax:=⟨"plan","plan",top 61,["talks","fee","change","most","plans","rows"],["talks","fee","change","most"],⟨4,6,tG⟩⟩
noncomputable def jz:List Sx:=[.exp (.app (.loc 1) (.cst (.int 0))),.asg 3 (.bi .len [.loc 1]),.asg 4 (.cst (.int 0)),.ite (.loc 0) [.asg 4 (.idx (.loc 0) (.bin .mod (.loc 3) (.bi .len [.loc 0])))] [],.asg 5 (.bin .mod (.bin .add (.loc 4) (.bin .mul (.cst (.int 104729)) (.loc 3))) (.cst (.int 4294967291))),.asg 5 (.bin .mod (.bin .mul (.bin .mod (.bin .mul (.loc 5) (.loc 5)) (.cst (.int 4294967279))) (.cst (.int 48271))) (.cst (.int 4294967291))),.asg 6 (.bin .mod (.bin .mul (.bin .mod (.bin .mul (.loc 5) (.loc 5)) (.cst (.int 4294967279))) (.cst (.int 69621))) (.cst (.int 4294967291))),.ret (.bin .mod (.bin .add (.bin .mul (.bin .fdiv (.loc 5) (.cst (.int 64))) (.cst (.int 67108864))) (.bin .fdiv (.loc 6) (.cst (.int 64)))) (.loc 2))]
noncomputable def yB:ax:=⟨"_law_draw","_law_draw",top 63,["_law_script","_law_town","_law_many","_law_k","_law_cell","_law_number","_law_more"],["_law_script","_law_town","_law_many"],⟨3,7,jz⟩⟩
noncomputable def tH:List Sx:=[.ret (.idx (.loc 2) (.call 47 [.loc 0,.loc 1,.bi .len [.loc 2]]))]
noncomputable def yC:ax:=⟨"_law_pick","_law_pick",top 64,["_law_script","_law_town","_law_some"],["_law_script","_law_town","_law_some"],⟨3,3,tH⟩⟩
noncomputable def tI:List Sx:=[.ret (.bi .tuple [.comp (.bin .sub (.call 47 [.loc 1,.loc 2,.cst (.int 2001)]) (.cst (.int 1000))) (.one 0) .range [.loc 2] 1 [0,1]])]
noncomputable def yD:ax:=⟨"_law_sounds","_law_sounds",top 65,["_law_script","_law_town","_law_size"],["_law_script","_law_town","_law_size"],⟨3,3,tI⟩⟩
noncomputable def jA:Str:={ cps:=#[116,97,107,101] }
noncomputable def jB:Str:={ cps:=#[112,117,116] }
noncomputable def qj:List Sx:=[.ite (.cmp .lt (.call 47 [.loc 0,.loc 1,.cst (.int 5)]) (.cst (.int 2))) [.ret (.tup [.cst (.str jA),.cst (.int 0),.tup []])] [],.asg 4 (.bin .add (.loc 2) (.call 48 [.loc 0,.loc 1,.lst [.cst (.int 0),.cst (.int 0),.cst (.int 1),.cst (.int 1),.cst (.int 2),.cst (.int 3),.neg (.cst (.int 1)),.neg (.cst (.int 2)),.cst (.int 5),.cst (.int 12),.cst (.int 40)]])),.ret (.tup [.cst (.str jB),.bin .sub (.loc 4) (.bin .mul (.bin .fdiv (.loc 4) (.cst (.int 65536))) (.cst (.int 65536))),.call 49 [.loc 0,.loc 1,.loc 3]])]
noncomputable def yE:ax:=⟨"_law_deed","_law_deed",top 66,["_law_script","_law_town","_law_here","_law_size","_law_number"],["_law_script","_law_town","_law_here","_law_size"],⟨4,5,qj⟩⟩
noncomputable def qk:List Sx:=[.ite (.cmp .eq (.idx (.loc 1) (.cst (.int 0))) (.cst (.str jA))) [.ret (.mth am jA 32 (.loc 0) [])] [],.calls .ret 29 (.me am jB (.loc 0) [.idx (.loc 1) (.cst (.int 1)),.idx (.loc 1) (.cst (.int 2))])]
noncomputable def yF:ax:=⟨"_law_do","_law_do",top 67,["_law_player","_law_deed_here"],["_law_player","_law_deed_here"],⟨2,2,qk⟩⟩
noncomputable def tJ:List Sx:=[.asg 2 (.call 14 [.loc 0,.idx (.loc 1) (.cst (.int 0))]),.asg 3 (.tup [.call 8 [.bin .sub (.loc 0) (.cst (.int 70000)),.cst (.int 5)],.call 9 [.tup [.loc 0,.cst (.int 5),.cst (.int 65535)]],.call 10 [.tup [.loc 0,.neg (.cst (.int 1)),.cst (.int 70000)]],.loc 2,.call 17 [.loc 2]]),.asg 3 (.bin .add (.loc 3) (.tup [.call 19 [.loc 1],.call 20 [.slc (.loc 1) (.cst (.int 1)) (.cst .non),.call 19 [.loc 1]]])),.asg 4 (.tup [.loc 1,.rev (.loc 1)]),.asg 5 (.tup [.bi .tuple [.comp (.call 19 [.loc 0]) (.one 0) .seq [.loc 4] 1 []],.bi .tuple [.comp (.call 19 [.tup [.loc 0,.loc 1]]) (.many [0,1]) .zip [.idx (.loc 4) (.cst (.int 0)),.idx (.loc 4) (.cst (.int 1))] 2 []]]),.ret (.bin .add (.loc 3) (.tup [.call 25 [.tup [.loc 1,.bin .add (.tup [.cst .non]) (.slc (.rev (.loc 1)) (.cst (.int 1)) (.cst .non))],.idx (.loc 5) (.cst (.int 0)),.idx (.loc 5) (.cst (.int 1))]]))]
noncomputable def yG:ax:=⟨"_law_first","_law_first",top 68,["_law_number","_law_pieces","_law_some","_law_told","_law_field","_law_sums"],["_law_number","_law_pieces"],⟨2,6,tJ⟩⟩
noncomputable def tK:List Sx:=[.asg 1 (.tup [.call 41 [.loc 0,.cst (.int 3)],.call 42 [.loc 0,.cst (.int 1)],.call 43 [.loc 0],.idx (.call 46 [.tup [.loc 0,.slc (.loc 0) (.cst .non) (.cst (.int 2))],.cst (.int 2),.cst (.int 1),.cst (.int 6)]) (.cst (.int 0))]),.ret (.bin .add (.loc 1) (.tup [.call 5 [.loc 0],.call 7 [.loc 0]]))]
noncomputable def yH:ax:=⟨"_law_second","_law_second",top 69,["_law_rows","_law_told"],["_law_rows"],⟨1,2,tK⟩⟩
noncomputable def kG:Str:={ cps:=#[119,97,105,116,105,110,103] }
noncomputable def kH:Str:={ cps:=#[115,101,101,110] }
noncomputable def ny:List Sx:=[.ite (.cmp .ne (.tup [.mth am kG 38 (.loc 9) [],.mth am kH 39 (.loc 9) []]) (.tup [.mth am kG 38 (.loc 9) [],.mth am kH 39 (.loc 9) []])) [.ret (.cst (.bl false))] []]
noncomputable def ql:List Sx:=[.asg 14 (.call 50 [.loc 0,.loc 1,.loc 12,.loc 3]),.for_ (.one 15) .range [.call 47 [.loc 0,.loc 1,.cst (.int 3)]] ny,.ite (.cmp .ne (.call 51 [.loc 9,.loc 14]) (.call 51 [.loc 10,.loc 14])) [.ret (.cst (.bl false))] [],.asg 12 (.bin .add (.loc 12) (.call 47 [.loc 0,.loc 1,.cst (.int 2)]))]
noncomputable def gu:List Sx:=[.asgT [3,4] (.tup [.bin .add (.cst (.int 1)) (.call 47 [.loc 0,.loc 1,.cst (.int 5)]),.call 47 [.loc 0,.loc 1,.cst (.int 65536)]]),.asg 5 (.bi .tuple [.comp (.call 49 [.loc 1,.loc 3,.loc 2]) (.one 0) .range [.bin .add (.cst (.int 2)) (.call 47 [.loc 0,.loc 1,.cst (.int 3)])] 1 [0,3,1]]),.asg 6 (.bi .tuple [.comp (.tup [.loc 0,.bin .add (.loc 0) (.call 47 [.loc 1,.loc 2,.cst (.int 9)])]) (.one 0) .range [.bin .add (.cst (.int 2)) (.call 47 [.loc 0,.loc 1,.cst (.int 6)])] 1 [0,1]]),.par [7,8] [.bi .repr [.tup [.loc 5,.loc 6]],.tup [.call 52 [.loc 4,.loc 5],.call 53 [.loc 6]]],.par [9,10,11] [.mk am 28 [.loc 3,.cst (.int 2),.cst (.int 40)],.mk am 28 [.loc 3,.cst (.int 2),.cst (.int 40)],.mk am 28 [.loc 3,.cst (.int 2),.cst (.int 40)]],.asg 12 (.loc 4),.for_ (.one 13) .range [.cst (.int 20)] ql,.ite (.or (.cmp .ne (.mth am kG 38 (.loc 9) []) (.mth am kG 38 (.loc 10) [])) (.cmp .ne (.mth am kH 39 (.loc 9) []) (.mth am kH 39 (.loc 10) []))) [.ret (.cst (.bl false))] [],.ite (.or (.cmp .ne (.mth am kG 38 (.loc 11) []) (.tup [])) (.cmp .ne (.mth am kH 39 (.loc 11) []) (.bin .mul (.tup [.cst (.int 0)]) (.cst (.int 9))))) [.ret (.cst (.bl false))] [],.ite (.or (.cmp .ne (.loc 8) (.tup [.call 52 [.loc 4,.loc 5],.call 53 [.loc 6]])) (.cmp .ne (.bi .repr [.tup [.loc 5,.loc 6]]) (.loc 7))) [.ret (.cst (.bl false))] []]
noncomputable def tL:List Sx:=[.asg 1 (.newl []),.for_ (.one 2) .range [.cst (.int 4)] gu,.ret (.cst (.bl true))]
noncomputable def tM:ax:=⟨"law","law",top 70,["_law_script","_law_town","_law_k","_law_size","_law_number","_law_pieces","_law_rows","_law_before","_law_told","_law_looked","_law_quiet","_law_idle","_law_here","_law_j","_law_deed_here","_law_turn"],["_law_script"],⟨1,16,tL⟩⟩
noncomputable def R:List ax:=[r0,r1,r2,r3,r4,r5,r6,r7,r8,r9,xI,xJ,xK,xL,xM,xN,xO,xP,xQ,xR,xS,xU,xV,xW,xX,xZ,x3,x4,x7,x_,ye,yf,yl,ym,yn,yo,yp,yq,yr,yt,yu,yw,tu,yx,yy,yz,yA,yB,yC,yD,yE,yF,yG,yH,tM]
end QL
namespace QL
open PySem PySem.Spec PyProof.Rows L2 PySem.SeqAt Q PySem.W
noncomputable def view:Program:={ PySem.Challenge.pw_soundroad_k37_whole_asked_twice with main:={ PySem.Challenge.pw_soundroad_k37_whole_asked_twice.main with body:=[top 1,top 2,top 3,top 4,top 6,top 7,top 8,top 9,top 10,top 11,top 12,top 13,top 15,top 16,top 17,top 18,top 19,top 21,top 22,top 23,top 24,top 25,top 26,top 27,top 28,top 29,top 30,top 31,top 32,top 33,top 34,top 36,top 37,top 38,top 39,top 40,top 41,top 42,top 43,top 44,top 46,top 47,top 48,top 49,top 50,top 51,top 53,top 54,top 55,top 56,top 57,top 58,top 59,top 60,top 61,top 63,top 64,top 65,top 66,top 67,top 68,top 69,top 70] } }
noncomputable def xt(s:Shared):Bool:=PySem.W.xlAt view [] s&&PySem.W.recOk (PySem.W.RowW.records PySem.Challenge.rw_soundroad_k37_whole_asked_twice.row.toRowW) s
noncomputable def ob(s:Shared):Bool×List (Option FuncData):=(kA (dL 417 s.heap) own R G ats me,kz (dL 417 s.heap) own R)
theorem yI{α T1 T2 T5 T6 T7 T8 T9 U:Type}{o:Option α}{c1:α->T1}{c2:α->T2}{k r q tb a b c d C h:α->Bool}{c5:α->T5}{c6:α->T6}{c7:α->T7}{c8:α->T8}{c9:α->T9}{ob:α->U}{v1:T1}{v2:T2}{v5:T5}{v6:T6}{v7:T7}{v8:T8}{v9:T9}{u:U}
  (e1:o.map (fun s=>(c1 s,c2 s,k s))=some (v1,v2,true)) (e2:o.map (fun s=>(r s,tb s))=some (true,true)) (e3:o.map (fun s=>(q s,c5 s,c6 s,c7 s,c8 s,c9 s))=some (true,v5,v6,v7,v8,v9))
  (e4:o.map (fun s=>(a s,ob s))=some (true,u)) (e5:o.map (fun s=>(d s,b s,c s))=some (true,true,true)) (hC:∀s,k s=true->r s=true->q s=true->C s=true) (hh:∀s,a s=true->d s=true->b s=true->c s=true->h s=true) :
  o.map (fun s=>((c1 s,c2 s,C s,tb s,c5 s,c6 s,c7 s,c8 s,c9 s),(h s,ob s)))=some ((v1,v2,true,true,v5,v6,v7,v8,v9),(true,u)):=by
 cases o with
 |none=>cases e1
 |some s=>
  simp only[Option.map_some,bT,Prod.mk.injEq]at e1 e2 e3 e4 e5 ⊢;exact⟨⟨e1.1,e1.2.1,hC s e1.2.2 e2.1 e3.1,e2.2,e3.2.1,e3.2.2.1,e3.2.2.2.1,e3.2.2.2.2.1,e3.2.2.2.2.2⟩,hh s e4.1 e5.1 e5.2.1 e5.2.2,e4.2⟩
theorem yJ{α:Type}{f:α->Bool}{l:List α}(n:Nat)(h:(l.take n).all f=true)(g:(l.drop n).all f=true):l.all f=true:=by
 rw[←ke n l,List.all_append,h,g];rfl
theorem D3(w:World):(PySem.W.openEnds treeTable PySem.Challenge.pw_soundroad_k37_whole_asked_twice (w.withFollow "special-get-raises" false) 5988).map (fun s=>((R.drop 31).all fun r=>fT (dL 417 s.heap) own r,G.all fun y=>gB (dL 417 s.heap) own R y.1 y.2,nk (dL 417 s.heap) own R ats me))=some ((true,true,true)):=by kernel_rfl
theorem D4(w:World):(PySem.W.openEnds treeTable PySem.Challenge.pw_soundroad_k37_whole_asked_twice (w.withFollow "special-get-raises" true) 5988).map (fun s=>((R.drop 31).all fun r=>fT (dL 417 s.heap) own r,G.all fun y=>gB (dL 417 s.heap) own R y.1 y.2,nk (dL 417 s.heap) own R ats me))=some ((true,true,true)):=by kernel_rfl
theorem D5(w:World):(PySem.W.openEnds treeTable PySem.Challenge.pw_soundroad_k37_whole_asked_twice (w.withFollow "special-get-raises" false) 5988).map (fun s=>((R.take 31).all fun r=>fT (dL 417 s.heap) own r,kz (dL 417 s.heap) own R))=some ((true,iJ R)):=by kernel_rfl
theorem D6(w:World):(PySem.W.openEnds treeTable PySem.Challenge.pw_soundroad_k37_whole_asked_twice (w.withFollow "special-get-raises" true) 5988).map (fun s=>((R.take 31).all fun r=>fT (dL 417 s.heap) own r,kz (dL 417 s.heap) own R))=some ((true,iJ R)):=by kernel_rfl
theorem D7(w:World):(PySem.W.openEnds treeTable PySem.Challenge.pw_soundroad_k37_whole_asked_twice (w.withFollow "special-get-raises" false) 5988).map (fun s=>(seen ((recsOf view).map (·.name)) (ownsOf view) [] { s with gens:=#[] },s.heap.bltView,s.heap.keysOk (looseW view [Str.ofString "STEPS"]) ((recsOf view).map (·.name)) ((litsOf view).map (·.1)) ((clssOf view (looseW view [Str.ofString "STEPS"])).map (·.name))&&s.heap.accountedOkI (importedModules PySem.Challenge.pw_soundroad_k37_whole_asked_twice.main.body)))=some ((expectedOf view,bltViewBooted,true)):=by kernel_rfl
theorem D8(w:World):(PySem.W.openEnds treeTable PySem.Challenge.pw_soundroad_k37_whole_asked_twice (w.withFollow "special-get-raises" true) 5988).map (fun s=>(seen ((recsOf view).map (·.name)) (ownsOf view) [] { s with gens:=#[] },s.heap.bltView,s.heap.keysOk (looseW view [Str.ofString "STEPS"]) ((recsOf view).map (·.name)) ((litsOf view).map (·.1)) ((clssOf view (looseW view [Str.ofString "STEPS"])).map (·.name))&&s.heap.accountedOkI (importedModules PySem.Challenge.pw_soundroad_k37_whole_asked_twice.main.body)))=some ((expectedOf view,bltViewBooted,true)):=by kernel_rfl
theorem D9(w:World):(PySem.W.openEnds treeTable PySem.Challenge.pw_soundroad_k37_whole_asked_twice (w.withFollow "special-get-raises" false) 5988).map (fun s=>(s.heap.isNs mainGlobals&&s.heap.isNs builtinsNs&&tablesOk view s.heap,tabsOk view s))=some ((true,true)):=by kernel_rfl
theorem D_(w:World):(PySem.W.openEnds treeTable PySem.Challenge.pw_soundroad_k37_whole_asked_twice (w.withFollow "special-get-raises" true) 5988).map (fun s=>(s.heap.isNs mainGlobals&&s.heap.isNs builtinsNs&&tablesOk view s.heap,tabsOk view s))=some ((true,true)):=by kernel_rfl
theorem Ea(w:World):(PySem.W.openEnds treeTable PySem.Challenge.pw_soundroad_k37_whole_asked_twice (w.withFollow "special-get-raises" false) 5988).map (fun s=>(xt s&&(if true then s.gens.size==0 else !leftWithCleanup s.gens),pinSeenD view (drecsOf view) s,plainSeenE view (looseW view [Str.ofString "STEPS"]) s,plainSeenD view [Str.ofString "STEPS"] s,wideSeen view s,clsSeenW view [Str.ofString "STEPS"] s))=some ((true,pinGoodD (drecsOf view),plainGoodE view (looseW view [Str.ofString "STEPS"]),plainGoodD view [Str.ofString "STEPS"],wideGood view,clsGoodW view [Str.ofString "STEPS"])):=by kernel_rfl
theorem Eb(w:World):(PySem.W.openEnds treeTable PySem.Challenge.pw_soundroad_k37_whole_asked_twice (w.withFollow "special-get-raises" true) 5988).map (fun s=>(xt s&&(if true then s.gens.size==0 else !leftWithCleanup s.gens),pinSeenD view (drecsOf view) s,plainSeenE view (looseW view [Str.ofString "STEPS"]) s,plainSeenD view [Str.ofString "STEPS"] s,wideSeen view s,clsSeenW view [Str.ofString "STEPS"] s))=some ((true,pinGoodD (drecsOf view),plainGoodE view (looseW view [Str.ofString "STEPS"]),plainGoodD view [Str.ofString "STEPS"],wideGood view,clsGoodW view [Str.ofString "STEPS"])):=by kernel_rfl
theorem Ec(w:World):(PySem.W.openEnds treeTable PySem.Challenge.pw_soundroad_k37_whole_asked_twice (w.withFollow "special-get-raises" false) 5988).map (fun s=>(openSeen view [Str.ofString "STEPS"] (importedModules PySem.Challenge.pw_soundroad_k37_whole_asked_twice.main.body) xt true s,ob s))=some (openGood view [Str.ofString "STEPS"],(true,iJ R)):=yI (D7 w) (D9 w) (Ea w) (D5 w) (D3 w) (fun s hk hr hq=>by
 simp only[aG]at hk hr hq ⊢;exact⟨⟨⟨⟨⟨⟨hk.1,hk.2⟩,hr.1.1⟩,hr.1.2⟩,hr.2⟩,hq.1⟩,hq.2⟩) (fun s ha hd hb hc=>by
 unfold kA;rw[yJ 31 ha hd,hb,hc];rfl)
theorem Ed(w:World):(PySem.W.openEnds treeTable PySem.Challenge.pw_soundroad_k37_whole_asked_twice (w.withFollow "special-get-raises" true) 5988).map (fun s=>(openSeen view [Str.ofString "STEPS"] (importedModules PySem.Challenge.pw_soundroad_k37_whole_asked_twice.main.body) xt true s,ob s))=some (openGood view [Str.ofString "STEPS"],(true,iJ R)):=yI (D8 w) (D_ w) (Eb w) (D6 w) (D4 w) (fun s hk hr hq=>by
 simp only[aG]at hk hr hq ⊢;exact⟨⟨⟨⟨⟨⟨hk.1,hk.2⟩,hr.1.1⟩,hr.1.2⟩,hr.2⟩,hq.1⟩,hq.2⟩) (fun s ha hd hb hc=>by
 unfold kA;rw[yJ 31 ha hd,hb,hc];rfl)
end QL
namespace L2
open PySem PySem.Spec PyProof.Rows
noncomputable def iM:ao->Value->Bool
 |.inl k,v=>Value.isInt k v
 |.inr x,v=>Value.isStrOf x v
noncomputable def Ee(w:World):ao->Int
 |.inl k=>hashInt k
 |.inr x=>hashStr w x
theorem iN:∀{k:ao}{v:Value},iM k v=true->(∃i t,k=Sum.inl i/\v=Value.int i t)\/(∃x t,k=Sum.inr x/\v=Value.str x t)
 |.inl i,v,h=>by
  obtain⟨t,e⟩:=Value.isInt_shape (k:=i) (v:=v) h;exact .inl ⟨i,t,rfl,e⟩
 |.inr x,v,h=>by
  obtain⟨t,e⟩:=Value.isStrOf_shape (x:=x) (v:=v) h;exact .inr ⟨x,t,rfl,e⟩
theorem Ef(i:Int)(t:Tok):iM (.inl i) (.int i t)=true:=by simp[iM,Value.isInt]
theorem Eg(x:Str)(t:Tok):iM (.inr x) (.str x t)=true:=by simp[iM,Value.isStrOf]
theorem Eh(a b:Int):decide ((Sum.inl a:ao)=Sum.inl b)=(a==b):=by
 by_cases e:a=b
 ·subst e;simp
 ·have h:¬(Sum.inl a:ao)=Sum.inl b:=fun q=>e (Sum.inl.inj q);rw[eN h];exact(ef.mpr e).symm
theorem Ei(a b:Str):decide ((Sum.inr a:ao)=Sum.inr b)=decide (a=b):=by
 by_cases e:a=b
 ·subst e;simp
 ·have h:¬(Sum.inr a:ao)=Sum.inr b:=fun q=>e (Sum.inr.inj q);rw[eN h,eN e]
theorem Ej(a:Int)(b:Str):decide ((Sum.inl a:ao)=Sum.inr b)=false:=eN (fun q=>nomatch q)
theorem Ek(a:Str)(b:Int):decide ((Sum.inr a:ao)=Sum.inl b)=false:=eN (fun q=>nomatch q)
noncomputable def cz(prog:Program)(w:World):PySem.KeyKind prog w ao where
 is:=iM
 hash:=Ee w
 inj:=fun v a b ha hb=>by
  rcases iN ha with ⟨i,t,rfl,rfl⟩|⟨x,t,rfl,rfl⟩
  ·rcases iN hb with ⟨j,u,rfl,e⟩|⟨y,u,rfl,e⟩
   ·injection e with e1 _;rw[e1]
   ·exact nomatch e
  ·rcases iN hb with ⟨j,u,rfl,e⟩|⟨y,u,rfl,e⟩
   ·exact nomatch e
   ·injection e with e1 _;rw[e1]
 byValue:=fun k v h=>by
  rcases iN h with ⟨i,t,rfl,rfl⟩|⟨x,t,rfl,rfl⟩<;>rfl
 pyHash:=fun hv h=>by
  rcases iN hv with ⟨i,t,rfl,rfl⟩|⟨x,t,rfl,rfl⟩
  ·exact wpAny_pyHash_int h
  ·exact wpAny_pyHash_str h
 eqBool:=fun hu hv h=>by
  rcases iN hu with ⟨i,t,rfl,rfl⟩|⟨x,t,rfl,rfl⟩
  ·rcases iN hv with ⟨j,u,rfl,rfl⟩|⟨y,u,rfl,rfl⟩
   ·rw[Eh]at h;exact wpAny_eqBool_int h
   ·rw[Ej]at h;exact SeqAt.EqAt.int_str i t y u _ _ _ _ h
  ·rcases iN hv with ⟨j,u,rfl,rfl⟩|⟨y,u,rfl,rfl⟩
   ·rw[Ek]at h;exact SeqAt.EqAt.str_int x t j u _ _ _ _ h
   ·rw[Ei]at h;exact wpAny_eqBool_str h
 «strs»:=fun k x t v h=>by
  rcases iN h with ⟨i,u,rfl,e⟩|⟨y,u,rfl,e⟩
  ·exact nomatch e
  ·injection e with e1 _;subst e1;cases v<;>rfl
theorem El(prog:Program)(w:World)(i:Int)(t:Tok):(cz prog w).is (.inl i) (.int i t)=true:=Ef i t
theorem Em(prog:Program)(w:World)(x:Str)(t:Tok):(cz prog w).is (.inr x) (.str x t)=true:=Eg x t
end L2
namespace L2
open PySem PySem.Spec PyProof.Rows
inductive V where
 |non|bl (b:Bool)|int (i:Int)|str (x:Str)|byt (b:Array UInt8)|flt (b:UInt64)|ref (a:Addr)|ty (n:String)
 deriving DecidableEq
noncomputable def RelV:V->Value->Prop
 |.non,u=>u=Value.none
 |.bl b,u=>u=Value.bool b
 |.int i,u=>∃t,u=Value.int i t
 |.str x,u=>∃t,u=Value.str x t
 |.byt b,u=>∃t,u=Value.bytes b t
 |.flt b,u=>∃t,u=Value.float b t
 |.ref a,u=>u=Value.ref a
 |.ty n,u=>u=Value.type n
noncomputable abbrev az:List V->List Value->Prop:=Paired RelV
theorem az.length{xs:List V}{us:List Value}(r:az xs us):xs.length=us.length:=wH r
theorem az.get:∀{xs:List V}{us:List Value}{i:Nat}{x:V},az xs us->xs[i]?=some x->∃u,us[i]?=some u/\RelV x u
 |_,_,_,_,.nil,e=>by simp at e
 |_,_,0,_,.cons r _,e=>by simp at e;subst e;exact⟨_,rfl,r⟩
 |_,_,i+1,x,.cons _ t,e=>by
  obtain⟨u,h1,h2⟩:=az.get (i:=i) (x:=x) t (by simpa using e);exact⟨u,by simpa using h1,h2⟩
theorem az.set{x:V}{u:Value}(r:RelV x u):∀{xs:List V}{us:List Value}(i:Nat),az xs us->az (xs.set i x) (us.set i u)
 |_,_,_,.nil=>.nil
 |_,_,0,.cons _ t=>.cons r t
 |_,_,i+1,.cons q t=>.cons q (az.set r i t)
theorem az.append:∀{xs ys:List V}{us ws:List Value},az xs us->az ys ws->az (xs++ys) (us++ws)
 |_,_,_,_,.nil,s=>s
 |_,_,_,_,.cons r t,s=>.cons r (az.append t s)
theorem az.take:∀{xs:List V}{us:List Value}(n:Nat),az xs us->az (xs.take n) (us.take n)
 |_,_,0,_=>.nil
 |_,_,_+1,.nil=>.nil
 |_,_,n+1,.cons r t=>.cons r (az.take n t)
theorem az.drop:∀{xs:List V}{us:List Value}(n:Nat),az xs us->az (xs.drop n) (us.drop n)
 |_,_,0,r=>r
 |_,_,_+1,.nil=>.nil
 |_,_,n+1,.cons _ t=>az.drop n t
noncomputable def cZ:Option V->Option Value->Prop
 |some v,some u=>RelV v u
 |none,none=>True
 |_,_=>False
noncomputable def KV{κ:Type}:List (κ×V)->List (κ×Value)->Prop:=Paired fun(p:κ×V)(q:κ×Value)=>p.1=q.1/\RelV p.2 q.2
noncomputable def kV:ao->V
 |.inl i=>.int i
 |.inr x=>.str x
inductive HO where
 /-- a list -/
 |lst (xs:List V)
 /-- a tuple (never changes) -/
 |tup (xs:List V)
 /-- a dict whose keys are ints and texts;one whose keys are tuples of ints and texts (the empty one is dN) -/
 |dK (kvs:List (ao×V))|dT (kvs:List (List ao×V))
 /-- a set of ints: its members,its size -/
 |set (S:Int->Bool) (n:Nat)
 /-- an instance of the class at C,its dict at dx,its attributes -/
 |ins (C dx:Addr) (fs:List (Str×V))
 /-- the dict of the instance at x -/
 |own (x:Addr)
 /-- the dict of an exception -/
 |xd (fs:List (Str×V))
 /-- a bound method,f of x -/
 |met (f x:Addr)
 /-- a range object lo,lo+1,.. below hi -/
 |rng (lo hi:Int)
 /-- a thing that is known to the object (the script;a dict while a loop walks it): read,never written while it is so -/
 |frz (o:Obj) (u:HO)
 /-- a code object's table -/
 |tbl (ps:Array Value)
 /-- any other thing,by what is true of its one object (a def of one's own: SetO a S n:=HO.ext fun h=>..) -/
 |ext (φ:Heap->Prop)
noncomputable abbrev Hp:=Addr->Option HO
noncomputable def ay(H:Hp)(a:Addr)(o:HO):Hp:=fun b=>if b=a then some o else H b
theorem eQ{H:Hp}{a:Addr}{o:HO}:ay H a o a=some o:=by unfold ay;rw[ag rfl]
theorem aR{H:Hp}{a b:Addr}{o:HO}(h:b≠a):ay H a o b=H b:=by unfold ay;rw[av h]
theorem tN{H:Hp}{a b:Addr}{o u:HO}(h:H a=some o)(h':H b=some u)(d:o≠u):a≠b:=by
 intro e;subst e;rw[h]at h';exact d (eO h')
theorem dz{H:Hp}{a b:Addr}{o:HO}(h:H a=some o)(h':H b=none):a≠b:=by
 intro e;subst e;rw[h]at h';cases h'
section
variable(P:Program)(w:World)
noncomputable def cN(H:Hp)(h:Heap)(a:Addr):HO->Prop
 |.lst xs=>xs.length<=sizeLine/\∃(its:List Value)(n:Nat),az xs its/\h.get? a=some { cls:=.type "list",data:=.seq its.toArray n }
 |.tup xs=>xs.length<=sizeLine/\∃its:List Value,az xs its/\IsTup h a its.toArray
 |.dK kvs=>kvs.length<=sizeLine/\(a==sysModules)=false/\∃vs,KV kvs vs/\h.DictOf (cz P w) a vs
 |.dT kvs=>kvs.length<=sizeLine/\(a==sysModules)=false/\∃xs:List (List ao×Addr×Value),
   Paired (fun(p:List ao×V)(q:List ao×Addr×Value)=>p.1=q.1/\H q.2.1=some (.tup (p.1.map kV))/\RelV p.2 q.2.2) kvs xs /\
   ∃o es ep,h.get? a=some o/\o.ExactDict/\o.data=.dict es ep/\es.toList=xs.map (entryOfKey (tupleKind (cz P w)))/\(xs.map (·.1)).Nodup
 |.set S n=>h.SetOf (intKind P w) a S n
 |.ins C dx fs=>H dx=some (.own a)/\fs.length<=1000/\dx≠a/\h.get? a=some (PySem.W.instObj C dx) /\
   ∃mA,h.Ns1 dx mA/\(∀f,cZ (fs.lookup f) (mA f))/\PySem.Within mA (fs.map (·.1))
 |.own _=>∃o,h.get? a=some o
 |.xd fs=>∃mA,h.Ns1 a mA/\∀f,cZ (fs.lookup f) (mA f)
 |.rng lo hi=>∃t u v,h.get? a=some { cls:=.type "range",data:=.fields #[.int lo t,.int hi u,.int 1 v] }
 |.frz o u=>h.get? a=some o/\cN H h a u
 |.tbl ps=>h.get? a=some { cls:=.none,data:=.fields ps }
 |.met f x=>h.get? a=some (PySem.W.methodObj (.ref f) (.ref x))
 |.ext φ=>φ h/\(∃o,h.get? a=some o)/\∀h1 h2:Heap,φ h1->(∀o,h1.get? a=some o->h2.get? a=some o)->φ h2
noncomputable def bC(H:Hp)(h:Heap):Prop:=∀a o,H a=some o->cN P w H h a o
end
section
variable{P:Program}{w:World}{H H':Hp}{h h':Heap}{a:Addr}{o:HO}
theorem cN.lt(x:cN P w H h a o):a<h.objs.size:=by
 cases o with
 |lst xs=>obtain⟨_,_,_,_,e⟩:=x;exact aX e
 |tup xs=>obtain⟨_,_,_,p⟩:=x;exact p.lt
 |dK kvs=>obtain⟨_,_,_,_,o,_,_,e,_⟩:=x;exact aX e
 |dT kvs=>obtain⟨_,_,_,_,o,_,_,e,_⟩:=x;exact aX e
 |set S n=>obtain⟨o,_,_,_,e,_⟩:=x;exact aX e
 |ins C dx fs=>obtain⟨_,_,_,e,_⟩:=x;exact aX e
 |own y=>obtain⟨_,e⟩:=x;exact aX e
 |xd fs=>obtain⟨_,⟨_,_,_,e,_⟩,_⟩:=x;exact aX e
 |rng lo hi=>obtain⟨_,_,_,e⟩:=x;exact aX e
 |frz ob u=>obtain⟨e,_⟩:=x;exact aX e
 |tbl ps=>exact aX (show h.get? a=some _ from x)
 |met f y=>exact aX (show h.get? a=some _ from x)
 |ext φ=>obtain⟨_,⟨_,e⟩,_⟩:=x;exact aX e
theorem Paired.mapP{α β:Type}{F G:α->β->Prop}:∀{l₁:List α}{l₂:List β},Paired F l₁ l₂->(∀a b,F a b->G a b)->Paired G l₁ l₂
 |_,_,.nil,_=>.nil
 |_,_,.cons r t,f=>.cons (f _ _ r) (Paired.mapP t f)
theorem cN.stay(x:cN P w H h a o)(k:∀b u,(b=a\/H b=some (.own a))->h.get? b=some u->h'.get? b=some u)
  (ho:∀b,H b=some (.own a)->H' b=some (.own a)) (ht:∀b xs,H b=some (.tup xs)->H' b=some (.tup xs)):cN P w H' h' a o:=by
 induction o with
 |lst xs=>obtain⟨z,its,n,r,e⟩:=x;exact⟨z,its,n,r,k _ _ (.inl rfl) e⟩
 |tup xs=>obtain⟨z,its,r,ob,e,c⟩:=x;exact⟨z,its,r,ob,k _ _ (.inl rfl) e,c⟩
 |dK kvs=>obtain⟨z,y,vs,r,ob,es,ep,e,c⟩:=x;exact⟨z,y,vs,r,ob,es,ep,k _ _ (.inl rfl) e,c⟩
 |dT kvs=>
  obtain⟨z,y,xs,r,ob,es,ep,e,c⟩:=x;exact⟨z,y,xs,Paired.mapP r fun p q z=>⟨z.1,ht _ _ z.2.1,z.2.2⟩,ob,es,ep,k _ _ (.inl rfl) e,c⟩
 |set S n=>obtain⟨ob,es,ep,t,e,c⟩:=x;exact⟨ob,es,ep,t,k _ _ (.inl rfl) e,c⟩
 |ins C dx fs=>
  obtain⟨d,z,ne,e,mA,⟨od,es,ep,e2,c⟩,r⟩:=x;exact⟨ho _ d,z,ne,k _ _ (.inl rfl) e,mA,⟨od,es,ep,k _ _ (.inr d) e2,c⟩,r⟩
 |own y=>obtain⟨ob,e⟩:=x;exact⟨ob,k _ _ (.inl rfl) e⟩
 |xd fs=>obtain⟨mA,⟨od,es,ep,e,c⟩,r⟩:=x;exact⟨mA,⟨od,es,ep,k _ _ (.inl rfl) e,c⟩,r⟩
 |rng lo hi=>obtain⟨t,u,v,e⟩:=x;exact⟨t,u,v,k _ _ (.inl rfl) e⟩
 |frz ob u ih=>obtain⟨e,q⟩:=x;exact⟨k _ _ (.inl rfl) e,ih q⟩
 |tbl ps=>
  have e:h.get? a=some { cls:=.none,data:=.fields ps }:=x;show h'.get? a=some { cls:=.none,data:=.fields ps };exact k a _ (.inl rfl) e
 |met f y=>
  have e:h.get? a=some (PySem.W.methodObj (.ref f) (.ref y)):=x;show h'.get? a=some (PySem.W.methodObj (.ref f) (.ref y));exact k a _ (.inl rfl) e
 |ext φ=>obtain⟨p,⟨o,e⟩,st⟩:=x;exact⟨st _ _ p fun o q=>k _ _ (.inl rfl) q,⟨o,k _ _ (.inl rfl) e⟩,st⟩
theorem bC.lt(x:bC P w H h)(e:H a=some o):a<h.objs.size:=(x a o e).lt
theorem bC.fresh(x:bC P w H h)(e:h.objs.size<=a):H a=none:=by
 cases q:H a with
 |none=>rfl
 |some u=>exact absurd (eg (x.lt q) e) (gb _)
theorem bC.kept(x:bC P w H h)(k:∀b u,h.get? b=some u->h'.get? b=some u):bC P w H h':=fun a o e=>
 (x a o e).stay (fun b u _ q=>k b u q) (fun _ q=>q) fun _ _ q=>q
theorem bC.laid(x:bC P w H h)(k:∀b u,h.get? b=some u->h'.get? b=some u)(hp:h.objs.size<=a)(new:cN P w (ay H a o) h' a o):bC P w (ay H a o) h':=fun b u e=>by
 have hn:=x.fresh hp;by_cases hb:b=a
 ·subst hb;rw[eQ]at e;cases e;exact new
 ·rw[aR hb]at e;exact(x b u e).stay (fun c v _ q=>k c v q) (fun c q=>by rw[aR (dz q hn)];exact q) fun c xs q=>by rw[aR (dz q hn)];exact q
end
noncomputable def Rd(H:Hp)(a:Addr)(u:HO):Prop:=H a=some u\/∃o,H a=some (.frz o u)
theorem Rd.of{H:Hp}{a:Addr}{u:HO}(h:H a=some u):Rd H a u:=.inl h
theorem Rd.ok{P:Program}{w:World}{H:Hp}{h:Heap}{a:Addr}{u:HO}(r:Rd H a u)(x:bC P w H h):cN P w H h a u:=by
 rcases r with r|⟨o,r⟩
 ·exact x a u r
 ·obtain⟨_,q⟩:=x a _ r;exact q
noncomputable def nz:Option HO->Prop
 |some (.lst _)=>True
 |some (.dK _)=>True
 |some (.dT _)=>True
 |some (.set _ _)=>True
 |some (.ins _ _ _)=>True
 |some (.ext _)=>True
 |_=>False
section
variable{P:Program}{w:World}{H:Hp}{h h':Heap}{x e:Addr}{o':HO}
theorem bC.write(ok:bC P w H h)(mu:nz (H x))(he:e=x\/H e=some (.own x))(k:∀b u,b≠e->h.get? b=some u->h'.get? b=some u)(heo:∃u,h'.get? e=some u)
  (new:cN P w (ay H x o') h' x o'):bC P w (ay H x o') h':=fun b u q=>by
 have nown:∀c y,H c=some (.own y)->c≠x:=fun c y r z=>by subst z;rw[r]at mu;exact mu
 have ntup:∀c xs,H c=some (.tup xs)->c≠x:=fun c xs r z=>by subst z;rw[r]at mu;exact mu
 by_cases hb:b=x
 ·subst hb;rw[eQ]at q;cases q;exact new
 ·rw[aR hb]at q;by_cases hbe:b=e
  ·have q':H b=some (.own x):=by
    rcases he with z|z
    ·exact absurd (hbe.trans z) hb
    ·rw[hbe];exact z
   rw[q]at q';cases q';obtain⟨v,hv⟩:=heo;exact⟨v,by rw[hbe];exact hv⟩
  ·refine(ok b u q).stay (fun c v hc r=>k c v ?_ r) (fun c r=>by rw[aR (nown c b r)];exact r) fun c xs r=>by rw[aR (ntup c xs r)];exact r
   rcases hc with rfl|hc
   ·exact hbe
   ·rintro rfl;rcases he with z|z
    ·exact nown c b hc z
    ·rw[hc]at z;cases z;exact hb rfl
end
structure Un(fs ex:List Addr)(H H':Hp)(h h':Heap):Prop where
 keep:∀b o,h.get? b=some o->H b=none->b∉fs->b∉ex->h'.get? b=some o
 slot:∀b o,h.get? b=some o->H b=none->b∈fs->b∉ex->∃sl,h'.get? b=some { o with slots:=sl }
 free:∀b o,h.get? b=some o->H b=none->b∉ex->H' b=none
 there:∀b o,h.get? b=some o->b∉ex->∃o',h'.get? b=some o'
 tups:∀b xs,H b=some (.tup xs)->H' b=some (.tup xs)
 frzs:∀b o u,H b=some (.frz o u)->H' b=some (.frz o u)
 tbls:∀b ps,H b=some (.tbl ps)->∃more,H' b=some (.tbl (ps++more))
section
variable{fs fs' ex ex':List Addr}{H H1 H2:Hp}{h h1 h2 h':Heap}{a x e:Addr}{o:HO}
theorem Un.any(u:Un fs ex H H1 h h1){b:Addr}{ob:Obj}(q:h.get? b=some ob)(n:H b=none)(hx:b∉ex):∃sl,h1.get? b=some { ob with slots:=sl }:=by
 by_cases hb:b∈fs
 ·exact u.slot b ob q n hb hx
 ·exact⟨ob.slots,u.keep b ob q n hb hx⟩
theorem Un.kept(k:∀b u,h.get? b=some u->h'.get? b=some u):Un fs ex H H h h':=
 ⟨fun b ob q _ _ _=>k b ob q,fun b ob q _ _ _=>⟨ob.slots,k b ob q⟩,fun _ _ _ n _=>n,fun b ob q _=>⟨ob,k b ob q⟩,fun _ _ q=>q,fun _ _ _ q=>q,fun _ ps q=>⟨#[],by rw[q];simp⟩⟩
theorem Un.refl:Un fs ex H H h h:=Un.kept fun _ _ q=>q
theorem Un.laid(k:∀b u,h.get? b=some u->h'.get? b=some u)(hp:h.objs.size<=a)(hn:H a=none):Un fs ex H (ay H a o) h h' where
 keep:=fun b u q _ _ _=>k b u q
 slot:=fun b u q _ _ _=>⟨u.slots,k b u q⟩
 free:=fun b u q n _=>by rw[aR (bU (eg (aX q) hp))];exact n
 there:=fun b u q _=>⟨u,k b u q⟩
 tups:=fun b xs q=>by rw[aR (dz q hn)];exact q
 frzs:=fun b u xs q=>by rw[aR (dz q hn)];exact q
 tbls:=fun b ps q=>⟨#[],by rw[aR (dz q hn),q];simp⟩
theorem Un.write(mu:nz (H x))(he:e=x\/H e=some (.own x))(k:∀b u,b≠e->h.get? b=some u->h'.get? b=some u)(heo:∃u,h'.get? e=some u):Un fs ex H (ay H x o) h h':=by
 have hx:∀b,H b=none->b≠x:=fun b n z=>by subst z;rw[n]at mu;exact mu
 have hb:∀b,H b=none->b≠e:=fun b n z=>by
  subst z;rcases he with r|r
  ·exact hx b n r
  ·rw[n]at r;cases r
 have hm:∀b u,H b=some u->¬nz (some u)->b≠x:=fun b u q nm z=>by subst z;rw[q]at mu;exact nm mu
 refine⟨fun b u q n _ _=>k b u (hb b n) q,fun b u q n _ _=>⟨u.slots,k b u (hb b n) q⟩,fun b u q n _=>by rw[aR (hx b n)];exact n,fun b u q _=>?_,
  fun b xs q=>by rw[aR (hm b _ q fun z=>z)];exact q,fun b u xs q=>by rw[aR (hm b _ q fun z=>z)];exact q,fun b ps q=>⟨#[],by rw[aR (hm b _ q fun z=>z),q];simp⟩⟩
 by_cases hbe:b=e
 ·subst hbe;exact heo
 ·exact⟨u,k b u hbe q⟩
end
noncomputable def qm(h:Heap)(H:Hp):List Addr:=(List.range h.objs.size).filter fun a=>(H a).isSome
noncomputable def iO(h:Heap)(H:Hp):Heap:=PySem.W.hideAll h (qm h H)
theorem En(h:Heap)(H:Hp):(iO h H).objs.size=h.objs.size:=PySem.W.hideAll_size _ _
theorem Eo{h:Heap}{H:Hp}{b:Addr}{o:Obj}(e:h.get? b=some o)(n:H b=none):(iO h H).get? b=some o:=
 PySem.W.hideAll_get _ e fun hm=>by
  have q:(H b).isSome=true:=(wI.mp hm).2;rw[n]at q;simp at q
theorem Ep{h:Heap}{H:Hp}{b:Addr}{o:Obj}(e:(iO h H).get? b=some o):h.get? b=some o/\H b=none:=by
 have e':h.get? b=some o:=PySem.W.of_hideAll (qm h H) e;refine⟨e',?_⟩;cases q:H b with
 |none=>rfl
 |some x=>
  have hm:b∈qm h H:=wI.mpr ⟨gh.mpr (aX e'),by simp[q]⟩;have z:(iO h H).get? b=none:=PySem.W.hideAll_none (qm h H) hm;rw[z]at e;cases e
noncomputable def Er(g h:Heap)(L:Addr):List (Addr×Obj):=(List.range h.objs.size).filterMap fun a=>if a=L\/(g.get? a).isSome=true then none else (h.get? a).map fun o=>(a,o)
noncomputable def rest(g h:Heap)(L d:Addr):List (Addr×Obj):=(Er g h L).filter fun p=>decide (p.1≠d)
end L2
namespace L2
open PySem PySem.Spec PyProof.Rows
structure Mod(K:PySem.W.Frag)(mg:Str->Option Value)(base:Heap):Prop where
 kin:K.In base
 glob:base.Ns mainGlobals mg
 blt:∃mb,base.Ns builtinsNs mb/\∀x:Str,x≠"__name__"->mb x=bootBuiltins x
 nolimit:base.NoLimit
structure Cx where
 prog:Program
 w:World
 K:PySem.W.Frag
 mg:Str->Option Value
 base:Heap
 A:Around
 N:List Str
 s₀:Shared
 H₀:Hp
 env:Env
 outer:List Env
 stack:List Env
 ex:List Addr
 fn:Str->Bool
 calm:Bool
 pn:List (Addr×Obj)
 xe:Value->Shared->Prop
noncomputable def c_(l:List Env):List Addr:=l.filterMap (·.frame)
noncomputable abbrev Cx.fs(X:Cx):List Addr:=c_ X.outer
noncomputable def nA(sc:Scope)(x:Str):Prop:=sc.names.lookup x=some .local\/sc.names.lookup x=some .cell\/sc.names.lookup x=some .free
noncomputable def Loc(sc:Scope)(x:Str):Prop:=sc.names.lookup x=some .local\/sc.names.lookup x=some .cell
noncomputable def Look(env:Env)(h:Heap)(m:Str->Option Value)(x:Str)(u:Value):Prop:=
 (env.kindOf x=some .local/\m x=some u)\/((env.kindOf x=some .cell\/env.kindOf x=some .free)/\∃c,env.cells.lookup x=some c/\h.IsCell c (some u))
structure Cx.Ok(X:Cx):Prop where
 mod:Mod X.K X.mg X.base
 kind:X.env.scope.kind=.function
 glob:X.env.globals=mainGlobals
 blt:X.env.builtins=builtinsNs
 above:X.s₀.heap.objs.size<=X.env.locals
 inj:∀x y c,X.env.cells.lookup x=some c->X.env.cells.lookup y=some c->x=y
 has:∀x,(X.env.kindOf x=some .cell\/X.env.kindOf x=some .free)->∃c,X.env.cells.lookup x=some c
 cab:∀x c,X.fn x=true->X.env.cells.lookup x=some c->X.s₀.heap.objs.size<=c
 hd:X.calm=true->X.A.handled=none
 frames:X.A.frames=some X.stack
 stk:X.stack=X.outer\/(X.stack=X.env::X.outer/\X.env.frame=some X.env.locals)
 exf:∀b∈X.ex,b≠X.env.locals/\∀x c,X.env.cells.lookup x=some c->c≠b
 bs:∀b o,X.base.get? b=some o->X.s₀.heap.get? b=some o/\X.H₀ b=none
 bsz:X.base.objs.size<=X.s₀.heap.objs.size
 noex:∀b o,X.base.get? b=some o->b∉X.ex
 exfs:∀b∈X.ex,b∉X.fs
 funs:X.s₀.heap.FunFrames X.base X.outer
 frf:∀b∈X.fs,X.H₀ b=none
structure Inv(X:Cx)(pins:List (Addr×Obj))(σ:List (Option V))(H:Hp)(s:Shared):Prop where
 ok:X.Ok
 os:s.os=X.s₀.os
 bare:AllBare s.gens
 base:Un X.fs X.ex X.H₀ H X.s₀.heap s.heap
 loc:∃m,s.heap.Ns X.env.locals m/\∀(i:Nat)(x:Str)(v:V),X.N[i]?=some x->σ[i]?=some (some v)->nA X.env.scope x->∃u,RelV v u/\Look X.env s.heap m x u
 cell:∀x c,X.env.cells.lookup x=some c->∃v,s.heap.IsCell c v
 free:H X.env.locals=none
 freeC:∀x c,X.env.cells.lookup x=some c->H c=none
 pin:∀p∈X.pn++pins,s.heap.get? p.1=some p.2/\H p.1=none/\p.1≠X.env.locals/\p.1∉X.fs/\∀v,p.2.data≠.cell v
 hok:bC X.prog X.w H s.heap
 len:σ.length=X.N.length
section
variable{X:Cx}{pins:List (Addr×Obj)}{σ:List (Option V)}{H H':Hp}{s:Shared}{h':Heap}
theorem Cx.Ok.nofr(ok:X.Ok){b:Addr}{o:Obj}(e:X.base.get? b=some o):b∉X.fs:=fun hb=>by
 have:=(ok.funs.mem hb).1;rw[e]at this;cases this
theorem Inv.bs(I:Inv X pins σ H s):∀b o,X.base.get? b=some o->s.heap.get? b=some o/\H b=none:=fun b o e=>
 ⟨I.base.keep b o (I.ok.bs b o e).1 (I.ok.bs b o e).2 (I.ok.nofr e) (I.ok.noex b o e),I.base.free b o (I.ok.bs b o e).1 (I.ok.bs b o e).2 (I.ok.noex b o e)⟩
theorem Inv.bk(I:Inv X pins σ H s):∀b o,X.base.get? b=some o->s.heap.get? b=some o:=fun b o e=>(I.bs b o e).1
theorem Inv.mod(I:Inv X pins σ H s):Mod X.K X.mg X.base:=I.ok.mod
theorem Inv.kIn(I:Inv X pins σ H s):X.K.In s.heap:=I.ok.mod.kin.keeps I.bk
theorem Inv.lt(I:Inv X pins σ H s):X.env.locals<s.heap.objs.size:=let ⟨_,hn,_⟩:=I.loc;hn.lt
theorem Inv.sz(I:Inv X pins σ H s):X.s₀.heap.objs.size<=s.heap.objs.size:=eP I.ok.above (pR I.lt)
theorem Inv.nofs(I:Inv X pins σ H s){a:Addr}(h:s.heap.objs.size<=a):a∉X.fs:=fun hb=>by
 obtain⟨_,o,ho,_⟩:=I.ok.funs.mem hb;exact absurd (eg (aX ho) (eP I.sz h)) (gb _)
theorem Inv.cne(I:Inv X pins σ H s):∀x c,X.env.cells.lookup x=some c->c≠X.env.locals:=fun x c e z=>by
 obtain⟨v,o,ho,hd⟩:=I.cell x c e;obtain⟨m,⟨o',es,ep,ho',hd',_⟩,_⟩:=I.loc;rw[z,ho']at ho;cases ho;rw[hd']at hd;cases hd
theorem Inv.funs(I:Inv X pins σ H s):s.heap.FunFrames X.base X.outer:=by
 have all:∀(l:List Env),(∀b∈c_ l,b∈X.fs)->X.s₀.heap.FunFrames X.base l->s.heap.FunFrames X.base l:=by
  intro l
  induction l with
  |nil=>intro _ _;trivial
  |cons env r ih=>
   intro hs hl;obtain⟨hk,⟨L,o,hf,hn,ho,hd⟩,hr⟩:=hl;have hL:L∈X.fs:=hs L (by unfold c_;rw[List.filterMap_cons,hf];exact bK);obtain⟨sl,e⟩:=I.base.slot L o ho (I.ok.frf L hL) hL fun z=>I.ok.exfs L z hL;exact⟨hk,⟨L,_,hf,hn,e,hd⟩,ih (fun b hb=>hs b (by unfold c_;rw[List.filterMap_cons,hf];exact bq _ hb)) hr⟩
 exact all X.outer (fun _ hb=>hb) I.ok.funs
theorem Inv.stack(I:Inv X pins σ H s):s.heap.FunFrames X.base X.stack:=by
 rcases I.ok.stk with e|⟨e,hf⟩
 ·rw[e];exact I.funs
 ·rw[e];obtain⟨m,hn,_⟩:=I.loc;refine .cons (by rw[I.ok.kind];decide) hf hn ?_ I.funs;exact Heap.get?_none_of_le (eP I.ok.bsz I.ok.above)
theorem Inv.stkSub(I:Inv X pins σ H s):∀b∈c_ X.stack,b∈X.env.locals::X.fs:=fun b hb=>by
 rcases I.ok.stk with e|⟨e,hf⟩
 ·rw[e]at hb;exact bq _ hb
 ·rw[e]at hb;unfold c_ at hb;rw[List.filterMap_cons,hf]at hb;exact hb
theorem Inv.stkFree(I:Inv X pins σ H s):∀b∈c_ X.stack,H b=none:=fun b hb=>by
 rcases aP.mp (I.stkSub b hb)with e|hb
 ·rw[e];exact I.free
 ·obtain⟨_,o,ho,_⟩:=I.ok.funs.mem hb;exact I.base.free b o ho (I.ok.frf b hb) fun z=>I.ok.exfs b z hb
theorem Inv.step{g':Array GenState}{t':Nat}{d':Drawn}{ch:List Addr}(I:Inv X pins σ H s)
  (hch:∀b∈ch,(b∈X.ex\/X.s₀.heap.objs.size<=b)/\b≠X.env.locals/\(∀x c,X.env.cells.lookup x=some c->c≠b)/\∀p∈X.pn++pins,p.1≠b)
  (keep:∀b o,b≠X.env.locals->b∉X.fs->b∉ch->s.heap.get? b=some o->H b=none->h'.get? b=some o)
  (slot:∀b o,b≠X.env.locals->b∈X.fs->b∉ch->s.heap.get? b=some o->H b=none->∃sl,h'.get? b=some { o with slots:=sl }) (free:∀b o,b∉ch->s.heap.get? b=some o->H b=none->H' b=none)
  (there:∀b o,b∉ch->s.heap.get? b=some o->∃o',h'.get? b=some o')
  (tups:∀b xs,H b=some (.tup xs)->H' b=some (.tup xs)) (frzs:∀b o u,H b=some (.frz o u)->H' b=some (.frz o u)) (tbls:∀b ps,H b=some (.tbl ps)->∃more,H' b=some (.tbl (ps++more)))
  (ns:∀m,s.heap.Ns X.env.locals m->h'.Ns X.env.locals m) (hok:bC X.prog X.w H' h') (hg:AllBare g') :
  Inv X pins σ H' { s with heap:=h',gens:=g',drawn:=d',toks:=t' }:=by
 have neL:∀b o,X.s₀.heap.get? b=some o->b≠X.env.locals:=fun b o e=>bU (eg (aX e) I.ok.above);have neC:∀b o,X.s₀.heap.get? b=some o->b∉X.ex->b∉ch:=fun b o e hx hb=>by
  rcases (hch b hb).1 with z|z
  ·exact hx z
  ·exact absurd (eg (aX e) z) (gb _)
 have cellK:∀x c,X.env.cells.lookup x=some c->∀v,s.heap.IsCell c v->h'.IsCell c v:=fun x c e v ⟨o,ho,hd⟩=>by
  have nch:c∉ch:=fun z=>(hch c z).2.2.1 x c e rfl;by_cases hc:c∈X.fs
  ·obtain⟨sl,q⟩:=slot c o (I.cne x c e) hc nch ho (I.freeC x c e);exact⟨_,q,hd⟩
  ·exact⟨o,keep c o (I.cne x c e) hc nch ho (I.freeC x c e),hd⟩
 refine⟨I.ok,I.os,hg,⟨fun b o e n hb hx=>?_,fun b o e n hb hx=>?_,fun b o e n hx=>?_,fun b o e hx=>?_,fun b xs e=>tups b xs (I.base.tups b xs e),fun b o xs e=>frzs b o xs (I.base.frzs b o xs e),fun b ps e=>?_⟩,?_,fun x c e=>?_,?_,fun x c e=>?_,fun p hp=>?_,hok,I.len⟩
 ·exact keep b o (neL b o e) hb (neC b o e hx) (I.base.keep b o e n hb hx) (I.base.free b o e n hx)
 ·obtain⟨sl,e1⟩:=I.base.slot b o e n hb hx;obtain⟨sl',e2⟩:=slot b _ (neL b o e) hb (neC b o e hx) e1 (I.base.free b o e n hx);exact⟨sl',e2⟩
 ·obtain⟨o',e1⟩:=I.base.there b o e hx;exact free b o' (neC b o e hx) e1 (I.base.free b o e n hx)
 ·obtain⟨o',e1⟩:=I.base.there b o e hx;exact there b o' (neC b o e hx) e1
 ·obtain⟨m1,e1⟩:=I.base.tbls b ps e;obtain⟨m2,e2⟩:=tbls b _ e1;exact⟨m1++m2,by rw[e2,Array.append_assoc]⟩
 ·obtain⟨m,hn,hl⟩:=I.loc;refine⟨m,ns m hn,fun i x v e1 e2 e3=>?_⟩;obtain⟨u,r,l⟩:=hl i x v e1 e2 e3;refine⟨u,r,?_⟩;rcases l with l|⟨k,c,e,z⟩
  ·exact .inl l
  ·exact .inr ⟨k,c,e,cellK x c e _ z⟩
 ·obtain⟨v,z⟩:=I.cell x c e;exact⟨v,cellK x c e v z⟩
 ·obtain⟨m,⟨o,_,_,ho,_⟩,_⟩:=I.loc;exact free _ o (fun z=>(hch _ z).2.1 rfl) ho I.free
 ·obtain⟨v,o,ho,hd⟩:=I.cell x c e;exact free c o (fun z=>(hch c z).2.2.1 x c e rfl) ho (I.freeC x c e)
 ·obtain⟨e,n,ne,nf,d⟩:=I.pin p hp;have nch:p.1∉ch:=fun z=>(hch p.1 z).2.2.2 p hp rfl;exact⟨keep p.1 p.2 ne nf nch e n,free p.1 p.2 nch e n,ne,nf,d⟩
theorem Inv.un{t':Nat}(I:Inv X pins σ H s)(u:Un X.fs [] H H' s.heap h')(hok:bC X.prog X.w H' h'):Inv X pins σ H' { s with heap:=h',toks:=t' }:=by
 obtain⟨m,⟨o,es,ep,ho,r⟩,_⟩:=id I.loc;obtain⟨sl,hL⟩:=u.any ho I.free (by simp);exact I.step (g':=s.gens) (d':=s.drawn) (ch:=[]) (fun _ z=>nomatch z) (fun b o _ hb _ e n=>u.keep b o e n hb (by simp)) (fun b o _ hb _ e n=>u.slot b o e n hb (by simp)) (fun b o _ e n=>u.free b o e n (by simp)) (fun b o _ e=>u.there b o e (by simp)) u.tups u.frzs u.tbls (fun m' hm=>by
  obtain⟨o',es',ep',ho',r'⟩:=hm;rw[ho]at ho';cases ho';exact⟨_,es',ep',hL,r'⟩) hok I.bare
theorem Inv.call{g':Array GenState}{t':Nat}{d':Drawn}{ch:List Addr}(I:Inv X pins σ H s)(u:Un (c_ X.stack) ch H H' s.heap h')(hok:bC X.prog X.w H' h')(hg:AllBare g')
  (hch:∀b∈ch,(b∈X.ex\/X.s₀.heap.objs.size<=b)/\b≠X.env.locals/\(∀x c,X.env.cells.lookup x=some c->c≠b)/\∀p∈X.pn++pins,p.1≠b) :
  Inv X pins σ H' { s with heap:=h',gens:=g',drawn:=d',toks:=t' }:=by
 obtain⟨m,⟨o,es,ep,ho,r⟩,_⟩:=id I.loc;obtain⟨sl,hL⟩:=u.any ho I.free fun z=>(hch _ z).2.1 rfl;exact I.step (ch:=ch) hch (fun b o hL hb hc e n=>u.keep b o e n (fun z=>(aP.mp (I.stkSub b z)).elim hL hb) hc) (fun b o _ _ hc e n=>u.any e n hc) (fun b o hc e n=>u.free b o e n hc) (fun b o hc e=>u.there b o e hc) u.tups u.frzs u.tbls (fun m' hm=>by
  obtain⟨o',es',ep',ho',r'⟩:=hm;rw[ho]at ho';cases ho';exact⟨_,es',ep',hL,r'⟩) hok hg
theorem Inv.turned{t':Nat}{it:Addr}(I:Inv X pins σ H s)(k:∀b o,b≠it->s.heap.get? b=some o->h'.get? b=some o)(hn:H it=none)(hL:it≠X.env.locals)
  (h1:it∈X.ex\/X.s₀.heap.objs.size<=it) (h2:∀x c,X.env.cells.lookup x=some c->c≠it) (h3:∀p∈X.pn++pins,p.1≠it):Inv X pins σ H { s with heap:=h',toks:=t' }:=by
 have nit:∀b u,H b=some u->b≠it:=fun b u e z=>by rw[z,hn]at e;cases e
 refine I.step (g':=s.gens) (d':=s.drawn) (ch:=[it]) (fun b hb=>?_) (fun b o _ _ hc e _=>k b o (fun z=>hc (by simp[z])) e) (fun b o _ _ hc e _=>⟨o.slots,k b o (fun z=>hc (by simp[z])) e⟩) (fun _ _ _ _ n=>n)
  (fun b o hc e=>⟨o,k b o (fun z=>hc (by simp[z])) e⟩) (fun _ _ e=>e) (fun _ _ _ e=>e) (fun b ps e=>⟨#[],by rw[e];simp⟩) (fun m hm=>?_) (fun b u e=>?_) I.bare
 ·have e:b=it:=by simpa using hb
  subst e;exact⟨h1,hL,h2,h3⟩
 ·obtain⟨o,es,ep,ho,r⟩:=hm;exact⟨o,es,ep,k _ o (a7 hL) ho,r⟩
 ·refine(I.hok b u e).stay (fun c v hc q=>k c v ?_ q) (fun _ q=>q) fun _ _ q=>q;rcases hc with z|z
  ·rw[z];exact nit b u e
  ·exact nit c _ z
theorem Inv.tok(I:Inv X pins σ H s)(t:Nat):Inv X pins σ H { s with toks:=t }:=I.un (h':=s.heap) (t':=t) Un.refl I.hok
theorem Inv.kept{t':Nat}(I:Inv X pins σ H s)(k:∀b u,s.heap.get? b=some u->h'.get? b=some u):Inv X pins σ H { s with heap:=h',toks:=t' }:=I.un (Un.kept k) (I.hok.kept k)
theorem Inv.laid{a:Addr}{o:HO}{t':Nat}(I:Inv X pins σ H s)(k:∀b u,s.heap.get? b=some u->h'.get? b=some u)(hp:s.heap.objs.size<=a)(new:cN X.prog X.w (ay H a o) h' a o) :
  Inv X pins σ (ay H a o) { s with heap:=h',toks:=t' }:=I.un (Un.laid k hp (I.hok.fresh hp)) (I.hok.laid k hp new)
theorem Inv.write{x e:Addr}{o:HO}{t':Nat}(I:Inv X pins σ H s)(mu:nz (H x))(he:e=x\/H e=some (.own x))(k:∀b u,b≠e->s.heap.get? b=some u->h'.get? b=some u)(heo:∃u,h'.get? e=some u)
  (new:cN X.prog X.w (ay H x o) h' x o):Inv X pins σ (ay H x o) { s with heap:=h',toks:=t' }:=I.un (Un.write mu he k heo) (I.hok.write mu he k heo new)
theorem Inv.pins_of{pins':List (Addr×Obj)}(I:Inv X pins σ H s)(h:∀p∈pins',s.heap.get? p.1=some p.2/\H p.1=none/\p.1≠X.env.locals/\p.1∉X.fs/\∀v,p.2.data≠.cell v):Inv X pins' σ H s:=
 ⟨I.ok,I.os,I.bare,I.base,I.loc,I.cell,I.free,I.freeC,fun p hp=>(gO.mp hp).elim (fun z=>I.pin p (lI _ z)) (h p),I.hok,I.len⟩
theorem nB{N:List Str}(hN:N.Nodup){i j:Nat}{x:Str}(a:N[i]?=some x)(b:N[j]?=some x):i=j:=by
 obtain⟨h1,e1⟩:=bF.mp a;obtain⟨h2,e2⟩:=bF.mp b;exact(List.getElem_inj hN).mp (e1.trans e2.symm)
theorem yK{M:Model}{A:Around}{E:Value->Shared->Prop}{i:Nat}{x:Str}{v:V}{u:Value}{Q:Unit->Shared->Prop}(I:Inv X pins σ H s)(hN:X.N.Nodup)(hi:X.N[i]?=some x)(hx:Loc X.env.scope x)(r:RelV v u)
  (h:∀s',Inv X pins (σ.set i (some v)) H s'->(∃a,Heap.SameBut a s.heap s'.heap/\(a=X.env.locals\/X.env.cells.lookup x=some a))->Q () s') (hf:X.fn x=true\/X.env.scope.names.lookup x=some .local:=by first|exact .inl rfl|exact .inr rfl|assumption):wpAny M A (storeName X.env x u) Q E s:=by
 obtain⟨m,hn,hl⟩:=id I.loc;have hcls:(X.env.scope.kind==.class||(X.env.scope.kind==.module&&X.env.locals != X.env.globals))=false:=by rw[I.ok.kind];rfl
 have hiσ:i<σ.length:=by rw[I.len];exact(bF.mp hi).1
 have cne:=I.cne;have tracked:∀{a:Addr}{h':Heap},(∃o,s.heap.get? a=some o/\H a=none)->Heap.SameBut a s.heap h'->bC X.prog X.w H h':=fun {a h'} ha hs b ob e=>by
  obtain⟨_,_,hfree⟩:=ha;refine(I.hok b ob e).stay (fun c w' hc q=>(hs.2 c ?_).trans q) (fun _ q=>q) fun _ _ q=>q;rintro rfl;rcases hc with rfl|hc
  ·rw[hfree]at e;cases e
  ·rw[hfree]at hc;cases hc
 rcases hx with hk|hk
 ·refine wpAny_storeName_local hk hn (fun h' hn' hs=>?_) hcls;obtain⟨oL,_,_,hoL,_⟩:=id hn;refine h _ ⟨I.ok,I.os,I.bare,⟨fun b o e n hb hx=>?_,fun b o e n hb hx=>?_,I.base.free,fun b o e hx=>?_,I.base.tups,I.base.frzs,I.base.tbls⟩,⟨_,hn',fun j y v' e1 e2 e3=>?_⟩,fun y c e=>?_,I.free,I.freeC,fun p hp=>?_,tracked ⟨oL,hoL,I.free⟩ hs,by simpa using I.len⟩ ⟨_,hs,.inl rfl⟩
  ·exact(hs.2 b (bU (eg (aX e) I.ok.above))).trans (I.base.keep b o e n hb hx)
  ·obtain⟨sl,e1⟩:=I.base.slot b o e n hb hx;exact⟨sl,(hs.2 b (bU (eg (aX e) I.ok.above))).trans e1⟩
  ·obtain⟨o',e1⟩:=I.base.there b o e hx;exact⟨o',(hs.2 b (bU (eg (aX e) I.ok.above))).trans e1⟩
  ·by_cases hj:j=i
   ·subst hj;rw[hi]at e1;cases e1;rw[rO hiσ]at e2;cases e2;exact⟨u,r,.inl ⟨hk,by simp⟩⟩
   ·rw[fw (a7 hj)]at e2;obtain⟨u',r',q⟩:=hl j y v' e1 e2 e3;refine⟨u',r',?_⟩;rcases q with ⟨k,e⟩|⟨k,c,e,z⟩
    ·refine .inl ⟨k,?_⟩;have:y≠x:=fun e=>hj (nB hN e1 (e ▸ hi));simp[this,e]
    ·exact .inr ⟨k,c,e,z.sameBut hs (cne y c e)⟩
  ·obtain⟨w',z⟩:=I.cell y c e;exact⟨w',z.sameBut hs (cne y c e)⟩
  ·obtain⟨e,n,ne,nf,d⟩:=I.pin p hp;exact⟨(hs.2 p.1 ne).trans e,n,ne,nf,d⟩
 ·have hfn:X.fn x=true:=by
   rcases hf with z|z
   ·exact z
   ·rw[z]at hk;cases hk
  obtain⟨c,hc⟩:=I.ok.has x (.inl hk);obtain⟨w',z⟩:=I.cell x c hc;refine wpAny_storeName_cell I.ok.kind hk hc z (fun h' hc' hs=>?_);obtain⟨oc,hoc,hocd⟩:=id z;refine h { s with heap:=h' } ⟨I.ok,I.os,I.bare,⟨fun b o e n hb hx=>?_,fun b o e n hb hx=>?_,I.base.free,fun b o e hx=>?_,I.base.tups,I.base.frzs,I.base.tbls⟩,⟨m,hn.sameBut hs (a7 (cne x c hc)),fun j y v' e1 e2 e3=>?_⟩,fun y c' e=>?_,I.free,I.freeC,fun p hp=>?_,tracked ⟨oc,hoc,I.freeC x c hc⟩ hs,by simpa using I.len⟩ ⟨c,hs,.inr hc⟩
  ·exact(hs.2 b (bU (eg (aX e) (I.ok.cab x c hfn hc)))).trans (I.base.keep b o e n hb hx)
  ·obtain⟨sl,e1⟩:=I.base.slot b o e n hb hx;exact⟨sl,(hs.2 b (bU (eg (aX e) (I.ok.cab x c hfn hc)))).trans e1⟩
  ·obtain⟨o',e1⟩:=I.base.there b o e hx;exact⟨o',(hs.2 b (bU (eg (aX e) (I.ok.cab x c hfn hc)))).trans e1⟩
  ·by_cases hj:j=i
   ·subst hj;rw[hi]at e1;cases e1;rw[rO hiσ]at e2;cases e2;exact⟨u,r,.inr ⟨.inl hk,c,hc,hc'⟩⟩
   ·rw[fw (a7 hj)]at e2;obtain⟨u',r',q⟩:=hl j y v' e1 e2 e3;refine⟨u',r',?_⟩;rcases q with q|⟨k,c',e,z'⟩
    ·exact .inl q
    ·refine .inr ⟨k,c',e,z'.sameBut hs ?_⟩;rintro rfl;exact hj (nB hN e1 (I.ok.inj _ _ _ e hc ▸ hi))
  ·by_cases hcc:c'=c
   ·subst hcc;exact⟨_,hc'⟩
   ·obtain⟨w2,z2⟩:=I.cell y c' e;exact⟨w2,z2.sameBut hs hcc⟩
  ·obtain⟨e,n,ne,nf,d⟩:=I.pin p hp;refine⟨(hs.2 p.1 ?_).trans e,n,ne,nf,d⟩;intro q;rw[q,hoc]at e;have q':oc=p.2:=eO e;exact d w' (by rw[←q'];exact hocd)
theorem g8{M:Model}{A:Around}{E:Value->Shared->Prop}{i:Nat}{x:Str}{v:V}{u:Value}{Q:Unit->Shared->Prop}(I:Inv X pins σ H s)(hN:X.N.Nodup)(hi:X.N[i]?=some x)(hx:Loc X.env.scope x)(r:RelV v u)
  (h:∀s',Inv X pins (σ.set i (some v)) H s'->Q () s') (hf:X.fn x=true\/X.env.scope.names.lookup x=some .local:=by first|exact .inl rfl|exact .inr rfl|assumption):wpAny M A (storeName X.env x u) Q E s:=
 yK I hN hi hx r (fun s' I' _=>h s' I') hf
theorem Inv.call'{s':Shared}{ch:List Addr}(I:Inv X pins σ H s)(ho:s'.os=s.os)(u:Un (c_ X.stack) ch H H' s.heap s'.heap)(hok:bC X.prog X.w H' s'.heap)(hg:AllBare s'.gens)
  (hch:∀b∈ch,(b∈X.ex\/X.s₀.heap.objs.size<=b)/\b≠X.env.locals/\(∀x c,X.env.cells.lookup x=some c->c≠b)/\∀p∈X.pn++pins,p.1≠b):Inv X pins σ H' s':=by
 obtain⟨h',g',d',t',o'⟩:=s';have e:o'=s.os:=ho;subst e;exact I.call (g':=g') (t':=t') (d':=d') u hok hg hch
end
noncomputable abbrev XK:=Value->Option Addr->Hp->Prop
noncomputable abbrev St:=List (Option V)
noncomputable abbrev VK:=V->Hp->Prop
noncomputable abbrev TE:=St->Hp->VK->Prop
noncomputable abbrev TT:=St->Hp->(Bool->Hp->Prop)->Prop
noncomputable abbrev TA:=St->Hp->(List V->Hp->Prop)->Prop
structure tO where
 nx:St->Hp->Prop
 rt:VK
 bk:St->Hp->Prop:=fun _ _=>False
 ct:St->Hp->Prop:=fun _ _=>False
noncomputable abbrev TS:=tO->St->Hp->Prop
noncomputable def EP(X:Cx)(pins:List (Addr×Obj))(σ:St)(Q:VK)(u:Value)(s':Shared):Prop:=∃v H',Inv X pins σ H' s'/\RelV v u/\Q v H'
noncomputable def TP(X:Cx)(pins:List (Addr×Obj))(σ:St)(Q:Bool->Hp->Prop)(b:Bool)(s':Shared):Prop:=∃H',Inv X pins σ H' s'/\Q b H'
noncomputable def SP(X:Cx)(pins:List (Addr×Obj))(D:tO)(f:Flow)(s':Shared):Prop:=
 match f with
 |.next=>∃σ' H',Inv X pins σ' H' s'/\D.nx σ' H'
 |.brk=>∃σ' H',Inv X pins σ' H' s'/\D.bk σ' H'
 |.cont=>∃σ' H',Inv X pins σ' H' s'/\D.ct σ' H'
 |.ret u=>∃v σ' H',Inv X pins σ' H' s'/\RelV v u/\D.rt v H'
noncomputable def PE(X:Cx)(e:Expr)(t:TE):Prop:=
 ∀(pins:List (Addr×Obj))(s:Shared)(σ:St)(H:Hp)(Q:VK),Inv X pins σ H s->t σ H Q->wpAny (model X.prog X.w) X.A (eval e X.env) (EP X pins σ Q) X.xe s
noncomputable def Es(X:Cx)(st:List Stmt)(t:TS):Prop:=
 ∀(pins:List (Addr×Obj))(s:Shared)(σ:St)(H:Hp)(D:tO),Inv X pins σ H s->t D σ H->wpAny (model X.prog X.w) X.A (execs st X.env) (SP X pins D) X.xe s
theorem bh{α:Type}{t:Sem α}{Q Q':α->Shared->Prop}{M:Model}{A:Around}{E:Value->Shared->Prop}{s:Shared}(h:wpAny M A t Q E s)(hQ:∀a s,Q a s->Q' a s):wpAny M A t Q' E s:=cY h hQ fun _ _ x=>x
end L2
namespace L2
open PySem PySem.Spec PyProof.Rows
section
variable{X:Cx}
theorem bin{a b:Expr}{ta tb:TE}(ha:PE X a ta)(hb:PE X b tb){pins:List (Addr×Obj)}{s:Shared}{σ:St}{H:Hp}{R:V->V->Hp->Prop}(I:Inv X pins σ H s)(h:ta σ H fun x H1=>tb σ H1 fun y H2=>R x y H2)
  {α:Type}{Q:α->Shared->Prop}{f:Value->Value->Sem α}
  (hf:∀v u s2 x y H2,Inv X pins σ H2 s2->RelV x v->RelV y u->R x y H2->wpAny (model X.prog X.w) X.A (f v u) Q X.xe s2) :
  wpAny (model X.prog X.w) X.A (eval a X.env) (fun v s₁=>wpAny (model X.prog X.w) X.A (eval b X.env) (fun u s₂=>wpAny (model X.prog X.w) X.A (f v u) Q X.xe s₂) X.xe s₁) X.xe s:=by
 refine bh (ha pins s σ H _ I h) fun v s1 ⟨x,H1,I1,r1,q1⟩=>?_;refine bh (hb pins s1 σ H1 _ I1 q1) fun u s2 ⟨y,H2,I2,r2,q2⟩=>?_;exact hf v u s2 x y H2 I2 r1 r2 q2
noncomputable def Et(i:Nat):TE:=fun σ H Q=>∃v,σ[i]?=some (some v)/\Q v H
noncomputable def tC(v:V):TE:=fun _ H Q=>Q v H
theorem Eu{i:Nat}{x:Str}{pos:Pos}(hN:X.N[i]?=some x)(hv:nA X.env.scope x)(hd:(x==("__debug__":Str))=false:=by decide)(hcd:(x==("__classdict__":Str))=false:=by decide):PE X (.Name x pos) (Et i):=by
 intro pins s σ H Q I h;obtain⟨v,e,h⟩:=h;obtain⟨m,hn,hl⟩:=I.loc;obtain⟨u,r,l⟩:=hl i x v hN e hv;have fin:EP X pins σ Q u s:=⟨v,H,I,r,h⟩
 rcases l with ⟨hk,hm⟩|⟨hk,c,hc,hcell⟩
 ·exact wpAny_Name (wpAny_loadName_local I.ok.kind hk hn hm fin) hd
 ·rcases hk with hk|hk
  ·exact wpAny_Name (wpAny_loadName_cell I.ok.kind hk hc hcell fin) hd
  ·exact wpAny_Name (wpAny_loadName_free I.ok.kind hk hc hcell fin hcd) hd
theorem yL {i j pos}:PE X (.Constant (.int i) j pos) (tC (.int i)):=fun _ _ _ H _ I h=>wpAny_Constant_int ⟨.int i,H,I.tok _,⟨_,rfl⟩,h⟩
theorem Ev {b j pos}:PE X (.Constant (.bool b) j pos) (tC (.bl b)):=fun _ _ _ H _ I h=>Constant_bool ⟨.bl b,H,I,rfl,h⟩
theorem Ew {j pos}:PE X (.Constant .none j pos) (tC .non):=fun _ _ _ H _ I h=>rP ⟨.non,H,I,rfl,h⟩
theorem yM {x j pos}:PE X (.Constant (.str x) j pos) (tC (.str x)):=fun _ _ _ H _ I h=>Calls.Constant_str ⟨.str x,H,I.tok _,⟨_,rfl⟩,h⟩
noncomputable def Gl(X:Cx)(x:Str):Prop:=X.env.kindOf x=some .globalImplicit
theorem lV{E:Value->Shared->Prop}{pins:List (Addr×Obj)}{s:Shared}{σ:St}{H:Hp}{x:Str}{u:Value}{pos:Pos}{Q:Value->Shared->Prop}(I:Inv X pins σ H s)(hg:Gl X x)(hm:X.mg x=some u)(h:Q u s)
  (hd:(x==("__debug__":Str))=false:=by decide):wpAny (model X.prog X.w) X.A (eval (.Name x pos) X.env) Q E s:=
 Calls.Name_function_global I.ok.kind hg (Calls.loadGlobal_global (by rw[I.ok.glob];exact I.mod.glob.keeps I.bk) hm h) hd
theorem g9{E:Value->Shared->Prop}{pins:List (Addr×Obj)}{s:Shared}{σ:St}{H:Hp}{x:Str}{u:Value}{pos:Pos}{Q:Value->Shared->Prop}(I:Inv X pins σ H s)(hg:Gl X x)(hm:X.mg x=none)(hv:bootBuiltins x=some u)(h:Q u s)
  (hn:x≠"__name__":=by decide) (hd:(x==("__debug__":Str))=false:=by decide):wpAny (model X.prog X.w) X.A (eval (.Name x pos) X.env) Q E s:=by
 obtain⟨mb,h1,h2⟩:=I.mod.blt;exact Calls.Name_function_global I.ok.kind hg (Calls.loadGlobal_builtin (by rw[I.ok.glob];exact I.mod.glob.keeps I.bk) hm (by rw[I.ok.blt];exact h1.keeps I.bk) ((h2 x hn).trans hv) h) hd
theorem yN{x:Str}{v:V}{u:Value}{pos:Pos}(hg:Gl X x)(hm:X.mg x=some u)(r:RelV v u)(hd:(x==("__debug__":Str))=false:=by decide):PE X (.Name x pos) (tC v):=
 fun _ _ _ H _ I h=>lV I hg hm ⟨v,H,I,r,h⟩ hd
variable{a b:Expr}{ta tb:TE}{pos:Pos}
theorem qo(b:Expr){op:CmpOp}(h:op≠.In)(h2:op≠.NotIn):behindInMarks op b=false:=by
 have e1:(op==CmpOp.In)=false:=by cases op<;>first|rfl|exact absurd rfl h
 have e2:(op==CmpOp.NotIn)=false:=by cases op<;>first|rfl|exact absurd rfl h2
 cases b<;>simp[behindInMarks,e1,e2]
variable{tA tB':TT}{rest:List Expr}
end
end L2
namespace L2
open PySem PySem.Spec PyProof.Rows
noncomputable def br(K:PySem.W.Frag)(H:Hp)(a:Addr)(xs:List V):Prop:=
 Rd H a (.lst xs) \/
  ∃(o:Obj)(its:Array Value)(n:Nat),K.lookup a=some o/\o.cls=.type "list"/\o.dict=none/\o.data=.seq its n/\its.size<=sizeLine/\az xs its.toList
noncomputable def bv(K:PySem.W.Frag)(H:Hp)(a:Addr)(xs:List V):Prop:=
 Rd H a (.tup xs) \/
  ∃(o:Obj)(its:Array Value)(n:Nat),K.lookup a=some o/\o.cls=.type "tuple"/\o.data=.seq its n/\its.size<=sizeLine/\az xs its.toList
noncomputable def Ey:Value->Option V
 |.none=>some .non
 |.bool b=>some (.bl b)
 |.int i _=>some (.int i)
 |.str x _=>some (.str x)
 |.bytes b _=>some (.byt b)
 |.float b _=>some (.flt b)
 |.ref a=>some (.ref a)
 |.type n=>some (.ty n)
 |_=>none
theorem RelV.abs{x:V}{u:Value}(r:RelV x u):Ey u=some x:=by
 cases x with
 |non=>cases r;rfl
 |bl _=>cases r;rfl
 |int _=>obtain⟨t,rfl⟩:=r;rfl
 |str _=>obtain⟨t,rfl⟩:=r;rfl
 |byt _=>obtain⟨t,rfl⟩:=r;rfl
 |flt _=>obtain⟨t,rfl⟩:=r;rfl
 |ref _=>cases r;rfl
 |ty _=>cases r;rfl
theorem RelV.inj{x y:V}{u:Value}(r:RelV x u)(q:RelV y u):x=y:=eO (r.abs.symm.trans q.abs)
theorem az.inj:∀{xs ys:List V}{us:List Value},az xs us->az ys us->xs=ys
 |_,_,_,.nil,.nil=>rfl
 |_,_,_,.cons r t,.cons r' t'=>by rw[r.inj r',az.inj t t']
section
variable{X:Cx}{pins:List (Addr×Obj)}{σ:St}{H:Hp}{s:Shared}{a:Addr}{xs ys:List V}
theorem br.of{K:PySem.W.Frag}(h:H a=some (.lst xs)):br K H a xs:=.inl (.inl h)
theorem bv.of{K:PySem.W.Frag}(h:H a=some (.tup xs)):bv K H a xs:=.inl (.inl h)
theorem Inv.list(I:Inv X pins σ H s)(h:br X.K H a xs):∃its:List Value,az xs its/\PlainL s.heap a its.toArray/\xs.length<=sizeLine:=by
 rcases h with h|⟨o,its,n,hk,hc,hd,hs,hz,r⟩
 ·obtain⟨z,its,n,r,e⟩:=h.ok I.hok;exact⟨its,r,⟨_,n,e,rfl,rfl,rfl⟩,z⟩
 ·refine⟨its.toList,r,⟨o,n,I.kIn a o hk,hc,hd,by simpa using hs⟩,?_⟩;have e:=r.length;simp only[Array.length_toList]at e;omega
theorem Inv.tuple(I:Inv X pins σ H s)(h:bv X.K H a xs):∃its:List Value,az xs its/\IsTup s.heap a its.toArray/\xs.length<=sizeLine:=by
 rcases h with h|⟨o,its,n,hk,hc,hs,hz,r⟩
 ·obtain⟨z,its,r,p⟩:=h.ok I.hok;exact⟨its,r,p,z⟩
 ·refine⟨its.toList,r,⟨o,I.kIn a o hk,hc,n,by simpa using hs⟩,?_⟩;have e:=r.length;simp only[Array.length_toList]at e;omega
theorem Inv.list_inj(I:Inv X pins σ H s)(h:br X.K H a xs)(h':br X.K H a ys):xs=ys:=by
 obtain⟨its,r,⟨o,n,e,_,_,d⟩,_⟩:=I.list h;obtain⟨its',r',⟨o',n',e',_,_,d'⟩,_⟩:=I.list h';rw[e]at e';cases e';rw[d]at d';injection d' with d1 _;have:its=its':=by simpa using congrArg Array.toList d1
 subst this;exact r.inj r'
theorem Inv.tuple_inj(I:Inv X pins σ H s)(h:bv X.K H a xs)(h':bv X.K H a ys):xs=ys:=by
 obtain⟨its,r,⟨o,e,_,n,d⟩,_⟩:=I.tuple h;obtain⟨its',r',⟨o',e',_,n',d'⟩,_⟩:=I.tuple h';rw[e]at e';cases e';rw[d]at d';injection d' with d1 _;have:its=its':=by simpa using congrArg Array.toList d1
 subst this;exact r.inj r'
end
noncomputable abbrev Cx.wish(X:Cx)(E:Value->Shared->Prop):Cx:={ X with xe:=E }
section
variable{X:Cx}{pins:List (Addr×Obj)}{σ:St}{H:Hp}{s:Shared}{E:Value->Shared->Prop}
end
section
variable{X:Cx}{st:Stmt}{rest:List Stmt}{t u:TS}{e:Expr}{te:TE}{pos:Pos}
theorem Inv.quiet{pins:List (Addr×Obj)}{σ:St}{H:Hp}{s:Shared}(I:Inv X pins σ H s):interactive X.env=false:=by simp[interactive,I.ok.kind]
end
noncomputable abbrev Ez:=V->V->V->Hp->(Hp->Prop)->Prop
noncomputable def EA(X:Cx)(t:Ez):Prop:=
 ∀(pins:List (Addr×Obj))(s:Shared)(σ:St)(H:Hp)(o i v:V)(ov iv u:Value)(Q:Hp->Prop),Inv X pins σ H s->RelV o ov->RelV i iv->RelV v u->t o i v H Q ->
  wpAny (model X.prog X.w) X.A (setItem ov iv u) (fun _ s'=>∃H',Inv X pins σ H' s'/\Q H') X.xe s
section
variable{X:Cx}{pos:Pos}
end
section
variable{X:Cx}{pos:Pos}
end
structure It where
 go:Nat->Hp->Prop
 yld:Nat->Hp->V->Hp->Prop
 stop:Nat->Hp->Prop
noncomputable def cA(X:Cx)(pins:List (Addr×Obj))(H:Hp)(b:Addr):Prop:=
 H b=none/\b≠X.env.locals/\b∉X.fs/\(b∈X.ex\/X.s₀.heap.objs.size<=b)/\(∀x c,X.env.cells.lookup x=some c->c≠b)/\∀p∈X.pn++pins,p.1≠b
theorem Inv.fpOk{X:Cx}{pins:List (Addr×Obj)}{σ:St}{H H':Hp}{s:Shared}{b:Addr}(I:Inv X pins σ H s)(hb:s.heap.objs.size<=b)(hn:H' b=none):cA X pins H' b:=by
 refine⟨hn,kf (eg I.lt hb),I.nofs hb,.inr (eP I.sz hb),fun x c e z=>?_,fun p hp z=>?_⟩
 ·obtain⟨v,q⟩:=I.cell x c e;exact absurd (eg q.lt (by rw[z];exact hb)) (gb _)
 ·exact absurd (eg (aX (I.pin p hp).1) (by rw[z];exact hb)) (gb _)
structure qp(P:Program)(w:World)(K:PySem.W.Frag)(tg:Expr)(J:It)(fp:List Addr)(it:Addr)(tn:Nat->Heap->Prop):Prop where
 mem:it∈fp
 obj:∀i h,tn i h->∀b∈fp,∃o,h.get? b=some o/\∀v,o.data≠.cell v
 keep:∀i h h',tn i h->(∀b∈fp,∀o,h.get? b=some o->h'.get? b=some o)->tn i h'
 item:∀(X:Cx),X.prog=P->X.w=w->X.K=K->X.calm=true->∀(i:Nat)(pins:List (Addr×Obj))(s:Shared)(σ:St)(H:Hp)(E:Value->Shared->Prop),Inv X pins σ H s->(∀b∈fp,cA X pins H b)->tn i s.heap->J.go i H ->
  wpAny (model P w) X.A (pyNext (.ref it)) (fun r s1=>∃u,r=some u /\
   wpAny (model P w) X.A (letOwnedTupleGo tg (.ref it) u) (fun _ s2=>∃x H',Inv X pins σ H' s2/\RelV x u/\J.yld i H x H'/\tn (i+1) s2.heap/\∀b∈fp,H' b=none) E s1) E s
 done:∀(X:Cx),X.prog=P->X.w=w->X.K=K->X.calm=true->∀(i:Nat)(pins:List (Addr×Obj))(s:Shared)(σ:St)(H:Hp)(E:Value->Shared->Prop),Inv X pins σ H s->(∀b∈fp,cA X pins H b)->tn i s.heap->J.stop i H ->
  wpAny (model P w) X.A (pyNext (.ref it)) (fun r s1=>r=none/\Inv X pins σ H s1) E s
 self:∀(A:Around)(i:Nat)(s:Shared)(Q:Value->Shared->Prop)(E:Value->Shared->Prop),tn i s.heap->Q (.ref it) s->wpAny (model P w) A (pyIter (.ref it)) Q E s
noncomputable abbrev TI:=St->Hp->(It->Hp->Prop)->Prop
theorem tP{M:Model}{A:Around}{E:Value->Shared->Prop}{s:Shared}{tg:Expr}{it:Addr}{u:Value}{o:Obj}{n:String}{vs:Array Value}{Q:Unit->Shared->Prop}(ho:s.heap.get? it=some o)(hc:o.cls=.type n)(hd:o.data=.fields vs)
  (hn:["enumerate","zip","dict_itemiterator","dict_reverseitemiterator","odict_iterator","itertools.zip_longest","itertools.pairwise"].contains n=false) (hQ:Q () s):wpAny M A (letOwnedTupleGo tg (.ref it) u) Q E s:=by
 unfold letOwnedTupleGo;cases tg<;>first
  |exact aA hQ
  |(cases u<;>first
    |exact aA hQ
    |(refine ah (wpAny_load ho ?_);rw[hc,hd];show wpAny M A (if (["enumerate","zip","dict_itemiterator","dict_reverseitemiterator","odict_iterator","itertools.zip_longest","itertools.pairwise"].contains n&&vs[0]?==some (rawInt _))=true then _ else _) Q E s;rw[av (by intro h;rw[hn,jj]at h;cases h)];exact aA hQ))
noncomputable def EB(K:PySem.W.Frag)(a:Addr):It:=
 ⟨fun i H=>∃xs x,br K H a xs/\xs[i]?=some x,fun i H x H'=>H'=H/\∀xs,br K H a xs->xs[i]?=some x,fun i H=>∃xs,br K H a xs/\xs.length<=i⟩
noncomputable def EC(K:PySem.W.Frag)(a:Addr):It:=
 ⟨fun i H=>∃xs x,bv K H a xs/\xs[i]?=some x,fun i H x H'=>H'=H/\∀xs,bv K H a xs->xs[i]?=some x,fun i H=>∃xs,bv K H a xs/\xs.length<=i⟩
noncomputable def ED(lo:Int)(n:Nat):It:=⟨fun i _=>i<n,fun i H x H'=>H'=H/\x=.int (lo+i),fun i _=>n<=i⟩
theorem yO{P:Program}{w:World}{K:PySem.W.Frag}{tg:Expr}(a it:Addr):qp P w K tg (EB K a) [it] it (fun i h=>h.IsListIter it a i) where
 mem:=by simp
 obj:=fun i h st b hb=>by
  have e:b=it:=by simpa using hb
  subst e;obtain⟨o,e,c,d⟩:=st;exact⟨o,e,fun v z=>by rw[d]at z;cases z⟩
 keep:=fun i h h' st k=>st.at fun o e=>k it (by simp) o e
 item:=by
  intro X hP hw hK hc i pins s σ H E I hf st hg;subst hP hw hK;obtain⟨xs,x,hq,hx⟩:=hg;obtain⟨its,rv,p,hz⟩:=I.list hq;obtain⟨u,hu,ru⟩:=rv.get hx;obtain⟨f0,f1,f2,f3,f4,f5⟩:=hf it (by simp);refine wpAny_pyNext_list_item st p.isList (x:=u) (by simpa using hu) fun h' st' sb=>?_;have I1:Inv X pins σ H { s with heap:=h' }:=I.turned (t':=s.toks) (fun b o hb e=>(sb.2 b hb).trans e) f0 f1 f3 f4 f5;obtain⟨o,e,c,d⟩:=id st';exact⟨u,rfl,tP (s:={ s with heap:=h' }) e c d (by decide) ⟨x,H,I1,ru,⟨rfl,fun ys hy=>by rw[I.list_inj hy hq];exact hx⟩,st',fun b hb=>(hf b hb).1⟩⟩
 done:=by
  intro X hP hw hK hc i pins s σ H E I hf st hg;subst hP hw hK;obtain⟨xs,hq,hx⟩:=hg;obtain⟨its,rv,p,hz⟩:=I.list hq;obtain⟨f0,f1,f2,f3,f4,f5⟩:=hf it (by simp);have hl:=rv.length;exact wpAny_pyNext_list_end (I.ok.hd hc) st p.isList (by simp;omega) fun h' eb=>⟨rfl,I.turned (t':=s.toks) (fun b o hb e=>eb b o hb e) f0 f1 f3 f4 f5⟩
 self:=fun _ _ _ _ _ st h=>wpAny_pyIter_listiter st h
theorem EE{P:Program}{w:World}{K:PySem.W.Frag}{tg:Expr}(a it:Addr):qp P w K tg (EC K a) [it] it (fun i h=>h.IsTupleIter it a i) where
 mem:=by simp
 obj:=fun i h st b hb=>by
  have e:b=it:=by simpa using hb
  subst e;obtain⟨o,e,c,d⟩:=st;exact⟨o,e,fun v z=>by rw[d]at z;cases z⟩
 keep:=fun i h h' st k=>st.at fun o e=>k it (by simp) o e
 item:=by
  intro X hP hw hK hc i pins s σ H E I hf st hg;subst hP hw hK;obtain⟨xs,x,hq,hx⟩:=hg;obtain⟨its,rv,p,hz⟩:=I.tuple hq;obtain⟨u,hu,ru⟩:=rv.get hx;obtain⟨f0,f1,f2,f3,f4,f5⟩:=hf it (by simp);refine wpAny_pyNext_tuple_item st (show s.heap.IsTuple a its.toArray from p) (x:=u) (by simpa using hu) fun h' st' sb=>?_;have I1:Inv X pins σ H { s with heap:=h' }:=I.turned (t':=s.toks) (fun b o hb e=>(sb.2 b hb).trans e) f0 f1 f3 f4 f5;obtain⟨o,e,c,d⟩:=id st';exact⟨u,rfl,tP (s:={ s with heap:=h' }) e c d (by decide) ⟨x,H,I1,ru,⟨rfl,fun ys hy=>by rw[I.tuple_inj hy hq];exact hx⟩,st',fun b hb=>(hf b hb).1⟩⟩
 done:=by
  intro X hP hw hK hc i pins s σ H E I hf st hg;subst hP hw hK;obtain⟨xs,hq,hx⟩:=hg;obtain⟨its,rv,p,hz⟩:=I.tuple hq;obtain⟨f0,f1,f2,f3,f4,f5⟩:=hf it (by simp);have hl:=rv.length;exact wpAny_pyNext_tuple_end (I.ok.hd hc) st (show s.heap.IsTuple a its.toArray from p) (by simp;omega) fun h' eb=>⟨rfl,I.turned (t':=s.toks) (fun b o hb e=>eb b o hb e) f0 f1 f3 f4 f5⟩
 self:=fun _ _ _ _ _ st h=>wpAny_pyIter_tupleiter st h
theorem EF{P:Program}{w:World}{K:PySem.W.Frag}{tg:Expr}(it:Addr)(lo:Int)(n:Nat):qp P w K tg (ED lo n) [it] it (fun i h=>IsRangeIter h it (lo+(i:Nat)*1) ((n:Int)-(i:Nat)) 1) where
 mem:=by simp
 obj:=fun i h st b hb=>by
  have e:b=it:=by simpa using hb
  subst e;exact⟨_,st,fun v z=>by
   have z':Data.fields _=Data.cell v:=z;cases z'⟩
 keep:=fun i h h' st k=>k it (by simp) _ st
 item:=by
  intro X hP hw hK hc i pins s σ H E I hf st hg;subst hP hw hK;obtain⟨f0,f1,f2,f3,f4,f5⟩:=hf it (by simp);have W:=Walks.range (prog:=X.prog) (w:=X.w) (I.ok.hd hc) it lo 1 n;refine W.item i s _ _ hg st fun v h' tk hv st' kk=>?_;obtain⟨t,rfl⟩:=hv;have I1:Inv X pins σ H { s with heap:=h',toks:=tk }:=I.turned (fun b o hb e=>kk b o (by simpa using hb) e) f0 f1 f3 f4 f5;refine⟨_,rfl,tP (s:={ s with heap:=h',toks:=tk }) (n:="range_iterator") st' rfl rfl (by decide) ⟨.int (lo+i),H,I1,⟨t,?_⟩,⟨rfl,rfl⟩,st',fun b hb=>(hf b hb).1⟩⟩;rw[Int.mul_one]
 done:=by
  intro X hP hw hK hc i pins s σ H E I hf st hg;subst hP hw hK;obtain⟨f0,f1,f2,f3,f4,f5⟩:=hf it (by simp);exact wpAny_pyNext_range_end (I.ok.hd hc) st (by have:n<=i:=hg;omega) fun h' eb=>⟨rfl,I.turned (t':=s.toks) (fun b o hb e=>eb b o hb e) f0 f1 f3 f4 f5⟩
 self:=fun _ _ _ _ _ st h=>wpAny_pyIter_rangeiter st h
end L2
namespace L2
open PySem PySem.Spec PyProof.Rows
section
variable{X:Cx}{tg:Expr}
noncomputable def qq(fp:List Addr)(h:Heap):List (Addr×Obj):=fp.filterMap fun b=>(h.get? b).map fun o=>(b,o)
theorem tQ{fp:List Addr}{h:Heap}{b:Addr}{o:Obj}(hb:b∈fp)(e:h.get? b=some o):(b,o)∈qq fp h:=wJ.mpr ⟨b,hb,by rw[e];rfl⟩
theorem EG{fp:List Addr}{h:Heap}{p:Addr×Obj}(hp:p∈qq fp h):p.1∈fp/\h.get? p.1=some p.2:=by
 obtain⟨b,hb,e⟩:=wJ.mp hp;cases q:h.get? b with
 |none=>rw[q]at e;cases e
 |some o=>
  rw[q]at e;have e':(b,o)=p:=eO e;subst e';exact⟨hb,q⟩
theorem Inv.pinned{pins:List (Addr×Obj)}{σ:St}{H:Hp}{s:Shared}{fp:List Addr}(I:Inv X pins σ H s)(hf:∀b∈fp,cA X pins H b)(ho:∀b∈fp,∃o,s.heap.get? b=some o/\∀v,o.data≠.cell v):Inv X (pins++qq fp s.heap) σ H s:=
 I.pins_of fun p hp=>(gO.mp hp).elim (fun z=>I.pin p (iz _ z)) fun z=>by
  obtain⟨hb,e⟩:=EG z;obtain⟨f0,f1,f2,_⟩:=hf p.1 hb;obtain⟨o,e',d⟩:=ho p.1 hb;rw[e]at e';cases e';exact⟨e,f0,f1,f2,d⟩
theorem Inv.unpinned{pins pl:List (Addr×Obj)}{σ:St}{H:Hp}{s:Shared}(I:Inv X (pins++pl) σ H s):Inv X pins σ H s:=I.pins_of fun p hp=>I.pin p (iz _ (lI _ hp))
end
end L2
namespace L2
open PySem PySem.Spec PyProof.Rows
noncomputable abbrev R2:=V->V->Hp->VK->Prop
noncomputable def yP(X:Cx)(f:Value->Sem Value)(r:V->Hp->VK->Prop):Prop:=
 ∀(pins:List (Addr×Obj))(s:Shared)(σ:St)(H:Hp)(x:V)(v:Value)(Q:VK),Inv X pins σ H s->RelV x v->r x H Q ->
  wpAny (model X.prog X.w) X.A (f v) (EP X pins σ Q) X.xe s
noncomputable def kI(X:Cx)(f:Value)(r:List V->Hp->VK->Prop):Prop:=
 ∀(pins:List (Addr×Obj))(s:Shared)(σ:St)(H:Hp)(xs:List V)(us:List Value)(Q:VK),Inv X pins σ H s->az xs us->r xs H Q ->
  wpAny (model X.prog X.w) X.A (call f us) (EP X pins σ Q) X.xe s
noncomputable def EH(X:Cx)(r:V->Hp->(Bool->Hp->Prop)->Prop):Prop:=
 ∀(pins:List (Addr×Obj))(s:Shared)(σ:St)(H:Hp)(x:V)(v:Value)(Q:Bool->Hp->Prop),Inv X pins σ H s->RelV x v->r x H Q ->
  wpAny (model X.prog X.w) X.A (truthy v) (TP X pins σ Q) X.xe s
noncomputable def rU(g:Int->V):V->Hp->VK->Prop:=fun x H Q=>∃i,x=.int i/\Q (g i) H
section
variable{X:Cx}{a b c:Expr}{ta tb tc:TE}{pos:Pos}
noncomputable def tR(i j:Int):Prop:=(-(2 ^ 64)<i/\i<2 ^ 64)\/(-(2 ^ 64)<j/\j<2 ^ 64)
theorem tR.ok{i j:Int}(h:tR i j):IntMulOk i j:=by
 rcases h with ⟨h1,h2⟩|⟨h1,h2⟩
 ·exact .of_left (intBits_le_64 h1 h2)
 ·exact .of_right (intBits_le_64 h1 h2)
theorem EI{f:Value->Sem Value}{g:Int->Int}
  (rule:∀(i:Int)(t:Tok)(s:Shared)(Q:Value->Shared->Prop)(E:Value->Shared->Prop),Q (.int (g i) s.toks) { s with toks:=s.toks+1 }->wpAny (model X.prog X.w) X.A (f (.int i t)) Q E s) :
  yP X f (rU fun i=>.int (g i)):=by
 intro pins s σ H x v Q I rx h;obtain⟨i,rfl,q⟩:=h;obtain⟨t,rfl⟩:=rx;exact rule i t s _ _ ⟨.int (g i),H,I.tok _,⟨_,rfl⟩,q⟩
theorem EJ:yP X (unaryOp .USub) (rU fun i=>.int (-i)):=EI fun _ _ _ _ _ q=>neg_int q
end
section
variable{X:Cx}{a b c:Expr}{ta tb tc:TE}{pos:Pos}
noncomputable def EK(K:PySem.W.Frag)(x:V)(H:Hp)(k:Bool):Prop:=
 match x with
 |.non=>k=false
 |.bl b=>k=b
 |.int i=>k=(i != 0)
 |.str y=>y.length<=sizeLine/\k=((y.length:Int) != 0)
 |.byt y=>y.size<=sizeLine/\k=((y.size:Int) != 0)
 |.ref p=>(∃xs,br K H p xs/\k=!xs.isEmpty)\/(∃xs,bv K H p xs/\k=!xs.isEmpty)\/∃kvs,H p=some (.dK kvs)/\k=!kvs.isEmpty
 |_=>False
theorem EL{κ:Type}{kvs:List (κ×V)}{vs:List (κ×Value)}(r:KV kvs vs):(!vs.isEmpty)=!kvs.isEmpty:=by
 cases r<;>rfl
theorem yQ{xs:List V}{its:List Value}(r:az xs its):(!its.toArray.isEmpty)=!xs.isEmpty:=by
 cases r<;>simp
theorem lW:(sizeLine:Nat)<2 ^ 63:=by rw[cy];decide
theorem EM:EH X (fun x H Q=>∃k,EK X.K x H k/\Q k H):=by
 intro pins s σ H x v Q I rx h;obtain⟨k,e,q⟩:=h;have hl:=lW;have hs:sizeLine=16777216:=cy;cases x with
 |non=>
  cases rx;have e':k=false:=e;subst e';exact truthy_none ⟨H,I,q⟩
 |bl b=>
  cases rx;have e':k=b:=e;subst e';exact mW ⟨H,I,q⟩
 |int i=>
  obtain⟨t,rfl⟩:=rx;have e':k=(i != 0):=e;subst e';exact PySem.P.truthy_int ⟨H,I,q⟩
 |str y=>
  obtain⟨t,rfl⟩:=rx;obtain⟨hy,e'⟩:y.length<=sizeLine/\k=((y.length:Int) != 0):=e;subst e';exact PySem.P.truthy_str (by omega) ⟨H,I.tok _,q⟩
 |byt y=>
  obtain⟨t,rfl⟩:=rx;obtain⟨hy,e'⟩:y.size<=sizeLine/\k=((y.size:Int) != 0):=e;subst e';exact PySem.W.truthy_bytes (by omega) ⟨H,I.tok _,q⟩
 |ref p=>
  cases rx;have e':(∃xs,br X.K H p xs/\k=!xs.isEmpty)\/(∃xs,bv X.K H p xs/\k=!xs.isEmpty)\/∃kvs,H p=some (.dK kvs)/\k=!kvs.isEmpty:=e;rcases e' with ⟨xs,hx,e'⟩|⟨xs,hx,e'⟩|⟨kvs,hx,e'⟩
  ·subst e';obtain⟨its,r,pl,hz⟩:=I.list hx;have hlen:=r.length;exact wpAny_truthy_list pl.isList (by simp only[aQ];omega) ⟨H,I.tok _,by rw[yQ r];exact q⟩
  ·subst e';obtain⟨its,r,pl,hz⟩:=I.tuple hx;have hlen:=r.length;exact truthy_tuple pl (by simp only[aQ];omega) ⟨H,I.tok _,by rw[yQ r];exact q⟩
  ·subst e';obtain⟨hz,hS,vs,r,m⟩:kvs.length<=sizeLine/\(p==sysModules)=false/\∃vs,KV kvs vs/\s.heap.DictOf (cz X.prog X.w) p vs:=I.hok p _ hx;have hlen:kvs.length=vs.length:=wH r;exact wpAny_truthy_dict hS m (by omega) ⟨H,I.tok _,by rw[EL r];exact q⟩
 |_=>exact(show False from e).elim
theorem vals1{x:V}{us:List Value}(r:az [x] us):∃u,us=[u]/\RelV x u:=by
 cases r with
 |cons r1 r2=>cases r2;exact⟨_,rfl,r1⟩
theorem vals2{x y:V}{us:List Value}(r:az [x,y] us):∃u w',us=[u,w']/\RelV x u/\RelV y w':=by
 cases r with
 |cons r1 r2=>
  cases r2 with
  |cons r3 r4=>cases r4;exact⟨_,_,rfl,r1,r3⟩
theorem EN(hc:X.calm=true):kI X (.builtin "max") (fun xs H Q=>∃i j,xs=[.int i,.int j]/\Q (.int (if j>i then j else i)) H):=by
 intro pins s σ H xs us Q I r h;obtain⟨i,j,rfl,q⟩:=h;obtain⟨u,w',rfl,⟨t,rfl⟩,⟨t',rfl⟩⟩:=vals2 r;refine max_two_ints (I.ok.hd hc) fun h' tk k=>⟨_,H,I.kept k,?_,q⟩
 by_cases hj:j>i
 ·rw[ag hj,ag hj];exact⟨_,rfl⟩
 ·rw[av hj,av hj];exact⟨_,rfl⟩
theorem EO(hc:X.calm=true):kI X (.builtin "min") (fun xs H Q=>∃i j,xs=[.int i,.int j]/\Q (.int (if j<i then j else i)) H):=by
 intro pins s σ H xs us Q I r h;obtain⟨i,j,rfl,q⟩:=h;obtain⟨u,w',rfl,⟨t,rfl⟩,⟨t',rfl⟩⟩:=vals2 r;refine min_two_ints (I.ok.hd hc) fun h' tk k=>⟨_,H,I.kept k,?_,q⟩
 by_cases hj:j<i
 ·rw[ag hj,ag hj];exact⟨_,rfl⟩
 ·rw[av hj,av hj];exact⟨_,rfl⟩
end
end L2
namespace L2
open PySem PySem.Spec PyProof.Rows
structure kJ(h:Heap)(x dx C:Addr)(mA:Str->Option Value):Prop where
 obj:h.get? x=some (PySem.W.instObj C dx)
 ns:h.Ns1 dx mA
 ne:dx≠x
theorem EQ{h:Heap}{dx:Addr}{mA:Str->Option Value}(n:h.Ns1 dx mA):∃od,h.get? dx=some od/\∀name,PySem.W.lookIn name od=some (mA name):=by
 obtain⟨o,es,ep,ho,hd,hk,_,hm⟩:=n;refine⟨o,ho,fun name=>?_⟩;have e:=hm name;unfold nsFind findBy at e;rw[←Array.find?_toList]at e;unfold PySem.W.lookIn;rw[hd];dsimp only;split
 ·rename_i y q;rw[q]at e;exact congrArg some e
 ·rename_i q;rw[q]at e;have a:es.toList.any (·.refKey)=false:=by
   rw[rQ];intro y hy;obtain⟨z,t,hkey⟩:=hk y (Array.mem_toList_iff.mp hy);simp[DictEntry.refKey,hkey]
  have a':¬es.toList.any (·.refKey)=true:=by rw[a];exact wK
  rw[av a'];exact congrArg some e
theorem kJ.look{h:Heap}{x dx C:Addr}{mA:Str->Option Value}(I:kJ h x dx C mA):∃od,PySem.W.InstAt h x (PySem.W.instObj C dx) C (some od)/\∀name,PySem.W.lookIn name od=some (mA name):=
 let ⟨od,ho,hl⟩:=EQ I.ns
 ⟨od,⟨I.obj,rfl,rfl,ho⟩,hl⟩
section
variable{prog:Program}{w:World}{A:Around}{E:Value->Shared->Prop}{s:Shared}{K:PySem.W.Frag}{x dx C f:Addr}{mA:Str->Option Value}{name:Str}{v:Value}
theorem ER{expr:Bool}{Q:Value->Shared->Prop}(X:K.In s.heap)(I:kJ s.heap x dx C mA)(hg:PySem.W.plainGet K C name=true)(hh:PySem.W.hasDictIn K C=true)
  (ha:PySem.W.findIn K (.ref C) name=some none) (hv:mA name=some v) (hv':PySem.W.handedIn v=true) (h:Q v { s with toks:=s.toks+1 }) :
  wpAny (model prog w) A (getAttr (.ref x) name expr) Q E s:=by
 obtain⟨od,J,hl⟩:=I.look;exact PySem.W.get_value X J (CW hg).1 (PySem.W.findObj_own hh ha rfl (by rw[hl,hv])) hv' h
theorem ES{pl:Sem Bool}{Q:Value×List Value->Shared->Prop}(X:K.In s.heap)(I:kJ s.heap x dx C mA)(hg:PySem.W.plainGet K C name=true)
  (hf:PySem.W.findIn K (.ref C) name=some (some (.ref f))) (ht:PySem.W.isFn K (.ref f)=true) (hv:mA name=none) (h:Q (.ref f,[.ref x]) s) :
  wpAny (model prog w) A (getMethod (.ref x) name pl) Q E s:=by
 obtain⟨od,J,hl⟩:=I.look;exact PySem.W.method_fn X J (CW hg).1 (CW hg).2 hf (jk.mp ht) (by show(PySem.W.lookIn name od).map (·.isSome)=some false;rw[hl,hv];rfl) h
theorem ET{ns:List Str}{Q:Unit->Shared->Prop}(X:K.In s.heap)(I:kJ s.heap x dx C mA)
  (hs:PySem.W.findIn K (.ref C) "__setattr__"=some (some (.builtin "object.__setattr__"))) (hp:PySem.W.plainOver K C=true) (ht:PySem.W.takerIn K C name=some none) (hh:PySem.W.hasDictIn K C=true)
  (hw:PySem.Within mA ns) (hsz:ns.length<=sizeLine)
  (h:∀h',kJ h' x dx C (fun y=>if y=name then some v else mA y)->Heap.SameBut dx s.heap h'->Q () { s with heap:=h',toks:=s.toks+2 }) :
  wpAny (model prog w) A (setAttr (.ref x) name v) Q E s:=by
 obtain⟨od,J,hl⟩:=I.look;refine PySem.W.set_plain X J hs (PySem.W.osa_open (s:={ s with toks:=s.toks+1 }) (r:=none) X J hp ht fun b=>?_);obtain⟨cd,hc,hd'⟩:=PySem.W.any_some hh;have hx:s.heap.get? x=some ⟨.ref C,some dx,.plain,#[]⟩:=I.obj;refine ah (aA (ah (ah (wpAny_loadPart hx (ah (PySem.W.Looks.here (s:={ s with toks:=s.toks+1 }) (PySem.W.looks_clsIn X hc) ?_))))));rw[hd'];refine aA (a:=some dx) (ah (aA (ah ?_)));refine wpAny_nsSet1 (s:={ s with toks:=s.toks+1 }) I.ns fun h' hn2 hs2=>?_;obtain⟨oD,esD,epD,hoD,hdD,hcD⟩:=hn2.count (PySem.Within.cons name v hw);refine ah (wpAny_lookBehind hoD (by rw[hdD];exact pastItsLine_dict (eP hcD (by rw[List.length_cons];omega))) ?_);exact aA (h _ ⟨(hs2.2 _ (a7 I.ne)).trans I.obj,hn2,I.ne⟩ hs2)
theorem EU{R:Result->Shared->Prop}{vs:List Value}{kw:List (Str×Value)}(X:K.In s.heap)(hm:PySem.W.makesIn K C=true)
  (hi:PySem.W.findIn K (.ref C) "__init__"=some (some (.ref f))) (hf:PySem.W.typeIn K (.ref f)=some (.type "function"))
  (h:codeAny (model prog w) (A.under (.builtin "type.__call__" ⟨.ref C::vs,kw⟩)) (.call (.ref f) ⟨.ref (s.heap.objs.size+1)::vs,kw⟩) (PySem.W.InitBack (s.heap.objs.size+1) R)
   { s with heap:=(s.heap.push PySem.W.emptyDict).push (PySem.W.instObj C s.heap.objs.size) }) :
  codeAny (model prog w) A (.call (.ref C) ⟨vs,kw⟩) R s:=by
 obtain⟨hh,g,d,t,os⟩:=s;exact PySem.W.make_core (PySem.W.makes_of X hm) (PySem.W.looks_findIn X hi) (fun self=>PySem.W.bind_fn X self hf) (.inl rfl) h
end
noncomputable def bM(f:Str)(v:V):List (Str×V)->List (Str×V)
 |[]=>[(f,v)]
 |(g,x)::r=>if g=f then (g,v)::r else (g,x)::bM f v r
theorem yR(f g:Str)(v:V):∀fs:List (Str×V),(bM f v fs).lookup g=if g=f then some v else fs.lookup g
 |[]=>by
  show List.lookup g [(f,v)]=_;by_cases h:g=f
  ·have hb:(g==f)=true:=jk.mpr h;simp only[List.lookup,hb,ag h]
  ·have hb:(g==f)=false:=ef.mpr h;simp only[List.lookup,hb,av h]
 |(k,x)::r=>by
  have ih:=yR f g v r;rw[show bM f v ((k,x)::r)=(if k=f then (k,v)::r else (k,x)::bM f v r) from rfl]
  by_cases hk:k=f
  ·rw[ag hk];by_cases h:g=k
   ·have hb:(g==k)=true:=jk.mpr h;simp only[List.lookup,hb,ag (h.trans hk)]
   ·have hb:(g==k)=false:=ef.mpr h;simp only[List.lookup,hb,av (fun e:g=f=>h (e.trans hk.symm))]
  ·rw[av hk];by_cases h:g=k
   ·have hb:(g==k)=true:=jk.mpr h;simp only[List.lookup,hb,av (fun e:g=f=>hk (h.symm.trans e))]
   ·have hb:(g==k)=false:=ef.mpr h;simp only[List.lookup,hb];exact ih
theorem tS(f:Str)(v:V):∀fs:List (Str×V),f∈(bM f v fs).map (·.1)/\∀g,g∈fs.map (·.1)->g∈(bM f v fs).map (·.1)
 |[]=>⟨by simp[bM],fun g h=>by simp at h⟩
 |(k,x)::r=>by
  obtain⟨i1,i2⟩:=tS f v r;rw[show bM f v ((k,x)::r)=(if k=f then (k,v)::r else (k,x)::bM f v r) from rfl]
  by_cases hk:k=f
  ·rw[ag hk];subst hk;exact⟨by simp,fun g h=>by simpa using h⟩
  ·rw[av hk];refine⟨?_,fun g h=>?_⟩
   ·rw[aZ];exact bq _ i1
   ·rw[aZ]at h ⊢;rcases aP.mp h with e|e
    ·exact aP.mpr (.inl e)
    ·exact bq _ (i2 g e)
theorem yS(f:Str)(v:V):∀fs:List (Str×V),(bM f v fs).length<=fs.length+1
 |[]=>by simp[bM]
 |(k,x)::r=>by
  have ih:=yS f v r;rw[show bM f v ((k,x)::r)=(if k=f then (k,v)::r else (k,x)::bM f v r) from rfl]
  by_cases hk:k=f
  ·rw[ag hk,List.length_cons,List.length_cons];omega
  ·rw[av hk,List.length_cons,List.length_cons];omega
theorem cZ.some_of{v:V}{o:Option Value}(r:cZ (some v) o):∃u,o=some u/\RelV v u:=by
 cases o with
 |none=>exact(show False from r).elim
 |some u=>exact⟨u,rfl,r⟩
theorem cZ.none_of{o:Option Value}(r:cZ none o):o=none:=by
 cases o with
 |none=>rfl
 |some u=>exact(show False from r).elim
theorem EV{v:V}{u:Value}(r:RelV v u):PySem.W.handedIn u=true:=by
 cases v with
 |non=>cases (show u=Value.none from r);rfl
 |bl b=>cases (show u=Value.bool b from r);rfl
 |int i=>obtain⟨t,e⟩:=(show ∃t,u=Value.int i t from r);cases e;rfl
 |str x=>obtain⟨t,e⟩:=(show ∃t,u=Value.str x t from r);cases e;rfl
 |byt b=>obtain⟨t,e⟩:=(show ∃t,u=Value.bytes b t from r);cases e;rfl
 |flt b=>obtain⟨t,e⟩:=(show ∃t,u=Value.float b t from r);cases e;rfl
 |ref a=>cases (show u=Value.ref a from r);rfl
 |ty n=>cases (show u=Value.type n from r);rfl
section
variable{P:Program}{w:World}{H H':Hp}{h h':Heap}{a C dx:Addr}{fs fs':List (Str×V)}
theorem tT(hok:bC P w H h)(e:H a=some (.ins C dx fs)):∃mA,kJ h a dx C mA/\(∀f,cZ (fs.lookup f) (mA f))/\PySem.Within mA (fs.map (·.1))/\fs.length<=1000/\H dx=some (.own a):=by
 obtain⟨d,z,ne,ob,mA,n,r,q⟩:=(show cN P w H h a (.ins C dx fs) from hok a _ e)
 exact⟨mA,⟨ob,n,ne⟩,r,q,z,d⟩
end
structure jC(K:PySem.W.Frag)(C:Addr):Prop where
 pg:PySem.W.plainGet K C Str.empty=true
 hd:PySem.W.hasDictIn K C=true
 po:PySem.W.plainOver K C=true
 sa:PySem.W.findIn K (.ref C) "__setattr__"=some (some (.builtin "object.__setattr__"))
theorem jC.get{K:PySem.W.Frag}{C:Addr}(c:jC K C)(f:Str):PySem.W.plainGet K C f=true:=c.pg
noncomputable def nC(K:PySem.W.Frag)(C:Addr)(f:Str):Prop:=PySem.W.findIn K (.ref C) f=some none
theorem nC.taker{K:PySem.W.Frag}{C:Addr}{f:Str}(n:nC K C f):PySem.W.takerIn K C f=some none:=by
 unfold PySem.W.takerIn;rw[show PySem.W.findIn K (.ref C) f=some none from n];rfl
structure Ov(K:PySem.W.Frag)(C:Addr)(f:Str)(v:V)(u:Value):Prop where
 at_:PySem.W.findIn K (.ref C) f=some (some u)
 rel:RelV v u
 get:PySem.W.specialIn K u "__get__"=some none
 cp:PySem.W.copiedNames.contains f=false
structure yT(K:PySem.W.Frag)(C:Addr)(m:Str)(f:Addr):Prop where
 at_:PySem.W.findIn K (.ref C) m=some (some (.ref f))
 fn:PySem.W.isFn K (.ref f)=true
 kp:PySem.W.keepIn K (.ref f)=true
section
variable{X:Cx}{pins:List (Addr×Obj)}{σ:St}{H:Hp}{s:Shared}{a C dx:Addr}{fs:List (Str×V)}{f:Str}{v:V}{A:Around}{E:Value->Shared->Prop}
theorem yU{b:Bool}{Q:Value->Shared->Prop}(I:Inv X pins σ H s)(e:H a=some (.ins C dx fs))(c:jC X.K C)(n:nC X.K C f)(l:fs.lookup f=some v)
  (h:∀u s',Inv X pins σ H s'->RelV v u->Q u s'):wpAny (model X.prog X.w) A (getAttr (.ref a) f b) Q E s:=by
 obtain⟨mA,O,r,_,_,_⟩:=tT I.hok e;obtain⟨u,hu,ru⟩:=cZ.some_of (v:=v) (o:=mA f) (by rw[←l];exact r f);exact ER I.kIn O (c.get f) c.hd n hu (EV ru) (h u _ (I.tok _) ru)
theorem qr{m:Str}{g:Addr}{pl:Sem Bool}{Q:Value×List Value->Shared->Prop}(I:Inv X pins σ H s)(e:H a=some (.ins C dx fs))(c:jC X.K C)(k:yT X.K C m g)(l:fs.lookup m=none)
  (h:Q (.ref g,[.ref a]) s):wpAny (model X.prog X.w) A (getMethod (.ref a) m pl) Q E s:=by
 obtain⟨mA,O,r,_,_,_⟩:=tT I.hok e;have hn:mA m=none:=cZ.none_of (by rw[←l];exact r m);exact ES I.kIn O (c.get m) k.at_ k.fn hn h
theorem yV{y:V}{u:Value}{Q:Unit->Shared->Prop}(I:Inv X pins σ H s)(e:H a=some (.ins C dx fs))(c:jC X.K C)(n:nC X.K C f)(hl:fs.length<1000)(ry:RelV y u)
  (h:∀s',Inv X pins σ (ay H a (.ins C dx (bM f y fs))) s'->Q () s'):wpAny (model X.prog X.w) A (setAttr (.ref a) f u) Q E s:=by
 obtain⟨mA,O,r,wi,_,ho⟩:=tT I.hok e;have hz:(fs.map (·.1)).length<=sizeLine:=by rw[aw,cy];omega
 refine ET I.kIn O c.sa c.po n.taker c.hd wi hz fun h' O' sb=>h _ ?_;have hd:∃o,h'.get? dx=some o:=let ⟨o,_,_,e',_⟩:=O'.ns;⟨o,e'⟩
 refine I.write (x:=a) (e:=dx) (by rw[e];exact True.intro) (.inr ho) (fun b q hb z=>(sb.2 b hb).trans z) hd ?_;refine⟨by rw[aR O.ne];exact ho,?_,O.ne,O'.obj,_,O'.ns,fun g=>?_,fun g hg=>?_⟩
 ·have:=yS f y fs;omega
 ·show cZ ((bM f y fs).lookup g) (if g=f then some u else mA g)
  rw[yR];by_cases q:g=f
  ·rw[ag q,ag q];exact ry
  ·rw[av q,av q];exact r g
 ·by_cases q:g=f
  ·rw[q];exact(tS f y fs).1
  ·refine(tS f y fs).2 g (wi g fun z=>hg ?_);show(if g=f then some u else mA g)=none
   rw[av q];exact z
theorem Inv.made(I:Inv X pins σ H s):Inv X pins σ (ay (ay H s.heap.objs.size (.own (s.heap.objs.size+1))) (s.heap.objs.size+1) (.ins C s.heap.objs.size []))
  { s with heap:=(s.heap.push PySem.W.emptyDict).push (PySem.W.instObj C s.heap.objs.size) }:=by
 have e1:(s.heap.push PySem.W.emptyDict).get? s.heap.objs.size=some PySem.W.emptyDict:=ci s.heap rfl;have e2:((s.heap.push PySem.W.emptyDict).push (PySem.W.instObj C s.heap.objs.size)).get? (s.heap.objs.size+1)=some (PySem.W.instObj C s.heap.objs.size):=by
  have:=ci (s.heap.push PySem.W.emptyDict) (o:=PySem.W.instObj C s.heap.objs.size) rfl
  rwa [gj]at this
 have e3:(s.heap.push PySem.W.emptyDict).Ns s.heap.objs.size (fun _=>none):=⟨PySem.W.emptyDict,#[],_,e1,rfl,(fun e he=>absurd he (by simp)),fun _=>rfl⟩
 have I1:=I.laid (a:=s.heap.objs.size) (o:=.own (s.heap.objs.size+1)) (h':=s.heap.push PySem.W.emptyDict) (t':=s.toks) (fun b u q=>bb _ q) (aF _) ⟨_,e1⟩;refine I1.laid (a:=s.heap.objs.size+1) (o:=.ins C s.heap.objs.size []) (t':=s.toks) (fun b u q=>bb _ q) (Nat.le_of_eq (gj _ _)) ?_;have ne:s.heap.objs.size≠s.heap.objs.size+1:=bU (fO _);refine⟨by rw[aR ne,eQ],jl _,ne,e2,fun _=>none,(Heap.Ns1.of_empty e3).at fun o q=>bb _ q,fun _=>True.intro,fun y hy=>absurd rfl hy⟩
theorem EW{prog:Program}{w:World}{env:Env}{e:Expr}{f:Str}{pos:Pos}{s:Shared}{Q:Value->Shared->Prop}(hb:attributeBase e f env (eval e env)=eval e env)
  (h:wpAny (model prog w) A (eval e env) (fun o s₁=>wpAny (model prog w) A (getAttr o f true) Q E s₁) E s):wpAny (model prog w) A (eval (.Attribute e f pos) env) Q E s:=
 Attribute_any_ h (by rw[arm_eval_Attribute,hb])
end
section
variable{X:Cx}{o e value:Expr}{f:Str}{pos pos' tpos:Pos}{ta tv:TE}
end
section
variable{X:Cx}{pins:List (Addr×Obj)}{σ:St}{H:Hp}{s:Shared}{A:Around}{E:Value->Shared->Prop}{Q:Value->Shared->Prop}{c:Value}{b:Bool}
end
end L2
namespace L2
open PySem PySem.Spec PyProof.Rows
structure bj(k:Nat)(A:Around):Prop where
 hd:A.handled=none
 dp:A.depth+3*k+5<recursionLimit
 un:A.units+16*k+200<cLine
 gd:A.guards=some []
theorem bj.mono{j k:Nat}{A:Around}(r:bj k A)(h:j<=k):bj j A:=⟨r.hd,by have:=r.dp;omega,by have:=r.un;omega,r.gd⟩
theorem bj.deeper{k:Nat}{A:Around}(r:bj (k+1) A)(env:Env):bj k (A.deeper env):=
 ⟨r.hd,by have:=r.dp;show A.depth+1+3*k+5<_;omega,by have:=r.un;show A.units+3+16*k+200<_;omega,r.gd⟩
theorem EY{A:Around}{C:Addr}{us:List Value}{kw:List (Str×Value)}:(A.under (.builtin "type.__call__" ⟨.ref C::us,kw⟩)).depth=A.depth+1:=by
 first|rfl|simp[Around.under,Code.weight,Code.isCreation,Code.isGuard,Code.isCaller,Code.frames,Code.isFrame,guardIds]
theorem EZ{A:Around}{C:Addr}{us:List Value}{kw:List (Str×Value)}:(A.under (.builtin "type.__call__" ⟨.ref C::us,kw⟩)).units=A.units+1:=by
 first|rfl|simp[Around.under,Code.cUnits,Code.frames,Code.isFrame]
theorem E1{A:Around}{C:Addr}{us:List Value}{kw:List (Str×Value)}:(A.under (.builtin "type.__call__" ⟨.ref C::us,kw⟩)).guards=A.guards:=by
 first|rfl|simp[Around.under,Code.guards,Code.isGuard,guardIds,pushGuards]
theorem bj.make{k:Nat}{A:Around}(r:bj (k+1) A)(C:Addr)(us:List Value)(kw:List (Str×Value)):bj k (A.under (.builtin "type.__call__" ⟨.ref C::us,kw⟩)):=
 ⟨r.hd,by have:=r.dp;rw[EY];omega,by have:=r.un;rw[EZ];omega,by rw[E1];exact r.gd⟩
theorem bj.depth{k:Nat}{A:Around}(r:bj k A):A.depth<recursionLimit:=by have:=r.dp;omega
theorem bj.units{k:Nat}{A:Around}(r:bj k A):A.units+64<cLine:=by have:=r.un;omega
section
variable{X:Cx}{e:Expr}{es:List Expr}{te:TE}{t:TA}{pos:Pos}
end
noncomputable abbrev Sp:=List V->Hp->VK->XK->Prop
noncomputable abbrev fA:=List Env->Hp->Shared->XK->Value->Shared->Prop
structure kK(P:Program)(w:World)(K:PySem.W.Frag)(mg:Str->Option Value)(base:Heap)(A:Around)(outer:List Env)(s:Shared)(H:Hp):Prop where
 frames:A.frames=some outer
 mod:Mod K mg base
 bs:∀b o,base.get? b=some o->s.heap.get? b=some o/\H b=none
 bsz:base.objs.size<=s.heap.objs.size
 funs:s.heap.FunFrames base outer
 frf:∀b∈c_ outer,H b=none
 hok:bC P w H s.heap
 bare:AllBare s.gens
noncomputable def CE(outer:List Env)(P:Program)(w:World)(H:Hp)(s:Shared)(Q:VK)(u:Value)(s':Shared):Prop:=
 ∃v H',s'.os=s.os/\AllBare s'.gens/\Un (c_ outer) [] H H' s.heap s'.heap/\bC P w H' s'.heap/\RelV v u/\Q v H'
noncomputable def CR(CX:fA)(outer:List Env)(P:Program)(w:World)(H:Hp)(s:Shared)(Q:VK)(E:XK)(r:Result)(s':Shared):Prop:=
 match r with
 |.ok (.ret u)=>CE outer P w H s Q u s'
 |.ok _=>False
 |.error e=>CX outer H s E e s'
structure bZ(P:Program)(w:World)(K:PySem.W.Frag)(mg:Str->Option Value)(base:Heap)(CX:fA)(k:Nat)(f:Addr)(fd:FuncData)(ps:List Str)(sp:Sp):Prop where
 len:∀vs H Q E,sp vs H Q E->vs.length=ps.length
 run:∀(A:Around)(outer:List Env)(s:Shared)(H:Hp)(args:Args)(us:List Value)(vs:List V)(Q:VK)(E:XK),bj k A->kK P w K mg base A outer s H->BindsTo s fd args (ps.zip us)->az vs us->sp vs H Q E ->
  codeAny (model P w) A (.call (.ref f) args) (CR CX outer P w H s Q E) s
theorem bZ.imp{P:Program}{w:World}{K:PySem.W.Frag}{mg:Str->Option Value}{base:Heap}{CX:fA}{k:Nat}{f:Addr}{fd:FuncData}{ps:List Str}{sp sp':Sp}(F:bZ P w K mg base CX k f fd ps sp)
  (h:∀vs H Q E,sp' vs H Q E->sp vs H Q E):bZ P w K mg base CX k f fd ps sp':=
 ⟨fun vs H Q E q=>F.len vs H Q E (h _ _ _ _ q),fun A outer s H args us vs Q E hr he hb hv hs=>F.run A outer s H args us vs Q E hr he hb hv (h _ _ _ _ hs)⟩
theorem kK.make{P:Program}{w:World}{K:PySem.W.Frag}{mg:Str->Option Value}{base:Heap}{A:Around}{outer:List Env}{s:Shared}{H:Hp}(e:kK P w K mg base A outer s H)(C:Addr)(us:List Value)(kw:List (Str×Value)) :
  kK P w K mg base (A.under (.builtin "type.__call__" ⟨.ref C::us,kw⟩)) outer s H:=⟨by first|exact e.frames|(simpa [Around.under,Code.envs,Code.isFrame,pushEnvs]using e.frames),e.mod,e.bs,e.bsz,e.funs,e.frf,e.hok,e.bare⟩
section
variable{X:Cx}{pins:List (Addr×Obj)}{σ:St}{H:Hp}{s s':Shared}
theorem Inv.env0(I:Inv X pins σ H s):kK X.prog X.w X.K X.mg X.base X.A X.stack s H:=
 ⟨I.ok.frames,I.ok.mod,I.bs,eP I.ok.bsz I.sz,I.stack,I.stkFree,I.hok,I.bare⟩
theorem Inv.after{Q:VK}{u:Value}(I:Inv X pins σ H s)(h:CE X.stack X.prog X.w H s Q u s'):EP X pins σ Q u s':=by
 obtain⟨v,H',os,bare,un,hok,r,q⟩:=h;obtain⟨hh,g,d,t,os'⟩:=s';obtain rfl:os'=s.os:=os;exact⟨v,H',I.call (h':=hh) (g':=g) (d':=d) (t':=t) (ch:=[]) un hok bare (fun b z=>absurd z (by simp)),r,q⟩
end
noncomputable def Binds(K:PySem.W.Frag)(fd:FuncData)(ps:List Str)(ds:List Value):Prop:=
 ∀(s:Shared)(us:List Value),K.In s.heap->(us++ds).length=ps.length->BindsTo s fd ⟨us,[]⟩ (ps.zip (us++ds))
theorem Binds.all{K:PySem.W.Frag}{fd:FuncData}{ps:List Str}(h:∀us:List Value,us.length=ps.length->bindArgs fd ⟨us,[]⟩=pure (ps.zip us)):Binds K fd ps []:=fun s us _ hl=>by
 rw[lJ]at hl ⊢;exact .of_eq (h us hl)
noncomputable def tU(CX:fA)(X:Cx)(E:XK):Prop:=∀(pins:List (Addr×Obj))(σ:St)(H:Hp)(s:Shared)(e:Value)(s':Shared),Inv X pins σ H s->CX X.stack H s E e s'->X.xe e s'
section
variable{X:Cx}{CX:fA}{k:Nat}{f C:Addr}{fd:FuncData}{ps:List Str}{sp:Sp}{dvs:List V}{ds:List Value}{E:XK}{x m:Str}{p pos apos:Pos}{e o:Expr}{es:List Expr}{ta:TE}{t:TA}
theorem E2{pins:List (Addr×Obj)}{σ:St}{H:Hp}{s:Shared}{Q:VK}{us:List Value}{vs:List V}(F:bZ X.prog X.w X.K X.mg X.base CX k f fd ps sp)(hr:bj k X.A)(hb:Binds X.K fd ps ds)(hd:az dvs ds)(hx:tU CX X E)
  (I:Inv X pins σ H s) (r:az vs us) (h:sp (vs++dvs) H Q E):wpAny (model X.prog X.w) X.A (call (.ref f) us) (EP X pins σ Q) X.xe s:=by
 have r2:az (vs++dvs) (us++ds):=r.append hd;have hl:(us++ds).length=ps.length:=by rw[←r2.length];exact F.len _ _ _ _ h
 refine wpAny_call (mX (F.run X.A X.stack s H ⟨us,[]⟩ (us++ds) (vs++dvs) Q E hr I.env0 (hb s us I.kIn hl) r2 h) fun r s' hq=>?_);cases r with
 |error e=>exact hx pins σ H s e s' I hq
 |ok fl=>
  cases fl with
  |ret u=>exact I.after hq
  |next=>exact False.elim hq
  |brk=>exact False.elim hq
  |cont=>exact False.elim hq
structure Mk(K:PySem.W.Frag)(C f:Addr):Prop where
 makes:PySem.W.makesIn K C=true
 init:PySem.W.findIn K (.ref C) "__init__"=some (some (.ref f))
 fn:PySem.W.isFn K (.ref f)=true
 kp:PySem.W.keepIn K (.ref C)=true
theorem E3{pins:List (Addr×Obj)}{σ:St}{H:Hp}{s:Shared}{Q:VK}{us:List Value}{vs:List V}(M:Mk X.K C f)(F:bZ X.prog X.w X.K X.mg X.base CX k f fd ps sp)(hr:bj (k+1) X.A)(hb:Binds X.K fd ps ds)(hd:az dvs ds)
  (hx:tU CX X E) (I:Inv X pins σ H s) (r:az vs us)
  (h:∀x dx,H x=none->H dx=none->dx≠x->sp (.ref x::(vs++dvs)) (ay (ay H dx (.own x)) x (.ins C dx [])) (fun v H2=>v=.non/\Q (.ref x) H2) E) :
  wpAny (model X.prog X.w) X.A (call (.ref C) us) (EP X pins σ Q) X.xe s:=by
 have hq:=h (s.heap.objs.size+1) s.heap.objs.size (I.hok.fresh (pS _)) (I.hok.fresh (aF _)) (bU (fO _));have I2:=Inv.made (C:=C) I;have r2:az (V.ref (s.heap.objs.size+1)::(vs++dvs)) (Value.ref (s.heap.objs.size+1)::(us++ds)):=.cons rfl (r.append hd);have hl:(Value.ref (s.heap.objs.size+1)::us++ds).length=ps.length:=by
  have e:=r2.length;rw[F.len _ _ _ _ hq]at e;exact e.symm
 refine wpAny_call (EU (f:=f) I.kIn M.makes M.init (jk.mp M.fn) (mX (F.run _ X.stack _ _ ⟨Value.ref (s.heap.objs.size+1)::us,[]⟩ (Value.ref (s.heap.objs.size+1)::(us++ds)) _ _ E (hr.make C us [])
  (I2.env0.make C us []) (hb _ (Value.ref (s.heap.objs.size+1)::us) I2.kIn hl) r2 hq) fun r s' hq'=>?_))
 cases r with
 |error e=>exact hx pins σ _ _ e s' I2 hq'
 |ok fl=>
  cases fl with
  |ret u=>
   obtain⟨v,H',I3,rv,ev,q3⟩:=I2.after hq';subst ev;exact⟨rv,⟨V.ref (s.heap.objs.size+1),H',I3,rfl,q3⟩⟩
  |next=>exact False.elim hq'
  |brk=>exact False.elim hq'
  |cont=>exact False.elim hq'
end
section
variable{X:Cx}{CX:fA}{k:Nat}{f C:Addr}{fd:FuncData}{ps ks:List Str}{sp:Sp}{E:XK}{x m:Str}{p pos apos kpos:Pos}{e o:Expr}{es:List Expr}{kws:List Keyword}{te ta:TE}{t tk:TA}{nm:Option Str}
structure Ow(K:PySem.W.Frag)(fd:FuncData)(ps ks:List Str)(g:List Value->List Value->List Value)(gV:List V->List V->List V):Prop where
 to:∀(s:Shared)(us ws:List Value),K.In s.heap->(g us ws).length=ps.length->BindsTo s fd ⟨us,ks.zip ws⟩ (ps.zip (g us ws))
 rel:∀{vs:List V}{us:List Value}{zs:List V}{ws:List Value},az vs us->az zs ws->az (gV vs zs) (g us ws)
variable{g:List Value->List Value->List Value}{gV:List V->List V->List V}
end
structure kL(N P:List Str)(sc:Scope):Prop where
 kind:sc.kind=.function
 co:sc.isCoroutine=false
 gen:sc.isGenerator=false
 nd:N.Nodup
 pre:N.take P.length=P
 par:∀x∈P,sc.names.lookup x=some .local\/sc.names.lookup x=some .cell
 nofree:∀y∈sc.names,y.2≠.free
theorem yW{kindOf:Str->Option NameKind}{x:Str}:∀{binds:List (Str×Value)}{m:Str->Option Value},(∀v,(x,v)∉binds)->bindL kindOf binds m x=m x
 |[],_,_=>rfl
 |(n,v)::r,m,h=>by
  unfold bindL;rw[yW fun w hw=>h w (bq _ hw)];split
  ·have:x≠n:=by rintro rfl;exact h v bK
   simp[this]
  ·rfl
theorem yX{kindOf:Str->Option NameKind}{x:Str}:∀{binds:List (Str×Value)}{m:Str->Option Value},(∀v,(x,v)∉binds)->bindC kindOf binds m x=m x
 |[],_,_=>rfl
 |(n,v)::r,m,h=>by
  unfold bindC;rw[yX fun w hw=>h w (bq _ hw)];split
  ·rfl
  ·have:x≠n:=by rintro rfl;exact h v bK
   simp[this]
theorem yY{kindOf:Str->Option NameKind}{x:Str}{v:Value}:∀{P:List Str}{vs:List Value}{i:Nat}{m:Str->Option Value},P.Nodup->P[i]?=some x->vs[i]?=some v->kindOf x=some .local ->
  bindL kindOf (P.zip vs) m x=some v
 |[],_,_,_,_,h,_,_=>by simp at h
 |_::_,[],_,_,_,_,h,_=>by simp at h
 |p::P,w::vs,0,m,nd,h1,h2,hk=>by
  simp at h1 h2;subst h1;subst h2;show bindL kindOf ((p,w)::P.zip vs) m p=_;unfold bindL;rw[yW fun v hv=>(pU.mp nd).1 (rR hv).1,ag hk];simp
 |p::P,w::vs,i+1,m,nd,h1,h2,hk=>by
  show bindL kindOf ((p,w)::P.zip vs) m x=_;unfold bindL;exact yY (i:=i) (pU.mp nd).2 (by simpa using h1) (by simpa using h2) hk
theorem yZ{kindOf:Str->Option NameKind}{x:Str}{v:Value}:∀{P:List Str}{vs:List Value}{i:Nat}{m:Str->Option Value},P.Nodup->P[i]?=some x->vs[i]?=some v->kindOf x≠some .local ->
  bindC kindOf (P.zip vs) m x=some v
 |[],_,_,_,_,h,_,_=>by simp at h
 |_::_,[],_,_,_,_,h,_=>by simp at h
 |p::P,w::vs,0,m,nd,h1,h2,hk=>by
  simp at h1 h2;subst h1;subst h2;show bindC kindOf ((p,w)::P.zip vs) m p=_;unfold bindC;rw[yX fun v hv=>(pU.mp nd).1 (rR hv).1,av hk];simp
 |p::P,w::vs,i+1,m,nd,h1,h2,hk=>by
  show bindC kindOf ((p,w)::P.zip vs) m x=_;unfold bindC;exact yZ (i:=i) (pU.mp nd).2 (by simpa using h1) (by simpa using h2) hk
noncomputable def start(N:List Str)(vs:List V):St:=vs.map some++List.replicate (N.length-vs.length) none
noncomputable def iP(CX:fA)(P:Program)(w:World)(K:PySem.W.Frag)(mg:Str->Option Value)(base:Heap)(N:List Str)(qual:Str)(scope:Scope)(f:Addr)(cd:Value)(A:Around)(outer:List Env)(s:Shared)(H:Hp)(E:XK):Cx where
 prog:=P
 w:=w
 K:=K
 mg:=mg
 base:=base
 A:=A.deeper (envOfC qual scope s.heap.objs.size f cd)
 N:=N
 s₀:=s
 H₀:=H
 env:=envOfC qual scope s.heap.objs.size f cd
 outer:=outer
 stack:=envOfC qual scope s.heap.objs.size f cd::outer
 ex:=[]
 calm:=true
 fn:=fun _=>true
 pn:=[]
 xe:=fun e s'=>wpAny (model P w) (A.deeper (envOfC qual scope s.heap.objs.size f cd)) (leaving (envOfC qual scope s.heap.objs.size f cd) e) (fun _ s''=>CX outer H s E e s'') (fun e' s''=>CX outer H s E e' s'') s'
theorem y0{sc:Scope}{n:Nat}{x:Str}(h:sc.names.lookup x=some .cell):∃c,(cellsFrom n sc.names []).lookup x=some c:=by
 have q:=PySem.W.cellsFrom_some sc.names n [] (.inl h);exact iA.mp q
theorem E4{CX:fA}{P:Program}{w:World}{K:PySem.W.Frag}{mg:Str->Option Value}{base:Heap}{N ps:List Str}{qual:Str}{scope:Scope}{f:Addr}{cd:Value}{A:Around}{outer:List Env}{s s1:Shared}{H:Hp}{E:XK}{us:List Value}{vs:List V}
  (S:kL N ps scope) (hd:A.handled=none) (e0:kK P w K mg base A outer s H) (hl:vs.length=ps.length) (r:az vs us)
  (x:InCallC s s.heap.objs.size (bindL (envOfC qual scope s.heap.objs.size f cd).kindOf (ps.zip us) fun _=>none) (cellsFrom (s.heap.objs.size+1) scope.names []) (bindC (envOfC qual scope s.heap.objs.size f cd).kindOf (ps.zip us) fun _=>none) s1) :
  Inv (iP CX P w K mg base N qual scope f cd A outer s H E) [] (start N vs) H s1:=by
 have hpl:ps.length<=N.length:=by have:=congrArg List.length S.pre;rw[kg]at this;omega
 obtain⟨h1,tk,rfl,hk⟩:=x.done;have noA:∀b:Addr,b∉(iP CX P w K mg base N qual scope f cd A outer s H E).ex:=fun b z=>absurd (show b∈([]:List Addr) from z) (by simp);refine⟨⟨e0.mod,S.kind,rfl,rfl,aF _,fun y z c h1 h2=>?_,fun y hy=>?_,fun y c _ h=>?_,fun _=>hd,Around.frames_deeper e0.frames,.inr ⟨rfl,rfl⟩,fun b z=>absurd z (noA b),e0.bs,e0.bsz,fun b _ _=>noA b,fun b z=>absurd z (noA b),e0.funs,e0.frf⟩,
  rfl,e0.bare,Un.kept hk,⟨_,x.toInCall.ns,fun i y v h1 h2 h3=>?_⟩,fun y c h=>⟨_,x.cell y c h⟩,e0.hok.fresh (aF _),fun y c h=>?_,fun p hp=>absurd (show p∈([]:List (Addr×Obj)) from hp) (by simp),e0.hok.kept hk,?_⟩
 ·exact name_of_addr x.apart (pV h1) (pV h2)
 ·have hy:scope.names.lookup y=some .cell\/scope.names.lookup y=some .free:=hy;rcases hy with hy|hy
  ·exact y0 hy
  ·exact absurd rfl (S.nofree _ (pV hy))
 ·exact pR (x.above y c (pV h))
 ·have hi:i<vs.length:=by
   unfold start at h2;by_cases hi:i<vs.length
   ·exact hi
   ·rw[fP (by simpa using hi)]at h2;rw[wL]at h2;split at h2<;>cases h2
  have ha:vs[i]?=some v:=by
   unfold start at h2;rw[dI (by simpa using hi),bG]at h2;cases e:vs[i]? with
   |none=>rw[e]at h2;cases h2
   |some a=>rw[e]at h2;cases h2;rfl
  obtain⟨u,hu,rv⟩:=r.get ha;have hp:ps[i]?=some y:=by
   rw[←S.pre,CY (by omega)];exact h1
  have ndP:ps.Nodup:=by rw[←S.pre];exact S.nd.sublist (List.take_sublist _ _)
  refine⟨u,rv,?_⟩;rcases S.par y (jm hp)with k|k
  ·exact .inl ⟨k,yY ndP hp hu k⟩
  ·obtain⟨c,e⟩:=y0 (n:=s.heap.objs.size+1) k;refine .inr ⟨.inl k,c,e,?_⟩;have q:=x.cell y c e;rw[yZ ndP hp hu (by show scope.names.lookup y≠_;rw[k];decide)]at q;exact q
 ·exact e0.hok.fresh (pR (x.above y c (pV h)))
 ·unfold start;show _=N.length;rw[en,aw,wM];omega
theorem E5{CX:fA}{P:Program}{w:World}{K:PySem.W.Frag}{mg:Str->Option Value}{base:Heap}{k:Nat}{f:Addr}{name qual:Str}{params:Arguments}{body:List Stmt}{scope:Scope}{dV kV doc pm cdv ct oc:Value}{an od:Option Addr}
  {osl:Array (Option Value)}{N ps:List Str}{sp:Sp}(lk:K.lookup f=some ⟨oc,od,.func (PySem.W.fnOf name qual params body scope dV kV doc pm an cdv ct),osl⟩) (hcd:PySem.W.codeIn K cdv qual=true) (S:kL N ps scope)
  (len:∀vs H Q E,sp vs H Q E->vs.length=ps.length)
  (hbody:∀(A:Around)(outer:List Env)(s:Shared)(H:Hp)(vs:List V)(Q:VK)(E:XK),bj k (A.deeper (envOfC qual scope s.heap.objs.size f cdv))->sp vs H Q E ->
   ∃t,Es (iP CX P w K mg base N qual scope f cdv A outer s H E) body t/\t { nx:=fun _ H'=>Q .non H',rt:=Q } (start N vs) H) :
  bZ P w K mg base CX (k+1) f (PySem.W.fnOf name qual params body scope dV kV doc pm an cdv ct) ps sp:=by
 refine⟨len,fun A outer s H args us vs Q E hr e0 hb r hsp=>?_⟩;have hl:=len _ _ _ _ hsp;have KX:K.In s.heap:=e0.mod.kin.keeps fun b o e=>(e0.bs b o e).1;have lim:s.heap.NoLimit:=e0.mod.nolimit.keeps fun b o e=>(e0.bs b o e).1;have hkind:∀y∈ps.zip us,scope.names.lookup y.1=some .local\/(scope.names.lookup y.1=some .cell/\((cellsFrom (s.heap.objs.size+1) scope.names []).lookup y.1).isSome=true):=fun⟨n,v⟩ hy=>by
  rcases S.par n (rR hy).1 with q|q
  ·exact .inl q
  ·exact .inr ⟨q,PySem.W.cellsFrom_some _ _ _ (.inl q)⟩
 refine codeAny_call_function hr.depth (KX _ _ lk) rfl S.co S.gen rfl (PySem.W.codeRec_of KX hcd) (hb _ _ _ _ ?_);refine wpAny_newFunctionEnv_cells S.kind hkind fun env he s1 x=>?_;subst he;refine⟨lim.keeps x.toInCall.keep,codeAny_func ?_⟩;obtain⟨t,ht,hq⟩:=hbody A outer s H vs Q E (hr.deeper _) hsp;have I:Inv (iP CX P w K mg base N qual scope f cdv A outer s H E) [] (start N vs) H s1:=E4 S hr.hd e0 hl r x;refine cY (ht [] s1 (start N vs) H _ I hq) (fun fl s' hs=>?_) fun e s' hs=>hs;have fin:∀{σ':St}{H':Hp}{v:V}{u:Value},Inv (iP CX P w K mg base N qual scope f cdv A outer s H E) [] σ' H' s'->RelV v u->Q v H'->CE outer P w H s Q u s':=
  fun {σ' H' v u} J rv q=>⟨v,H',J.os,J.bare,J.base,J.hok,rv,q⟩
 cases fl with
 |ret u=>
  obtain⟨v,σ',H',J,rv,q⟩:=hs;exact fin J rv q
 |next=>
  obtain⟨σ',H',J,q⟩:=hs;exact fin (v:=V.non) (u:=Value.none) J rfl q
 |brk=>
  obtain⟨_,_,_,q⟩:=hs;exact False.elim q
 |cont=>
  obtain⟨_,_,_,q⟩:=hs;exact False.elim q
end L2
namespace L2
open PySem PySem.Spec PyProof.Rows
section
variable{X:Cx}{x:Str}{p pos:Pos}{e:Expr}{es:List Expr}{t:TA}{id T:String}{r:List V->Hp->VK->Prop}
end
end L2
namespace HT
open PySem PyProof.Rows
section
open PySem.SeqAt
open PySem.AutoSeq1 (wpAny_loadPart')
open PySem.MeetsSeq PySem.MeetsSeq2 PySem.MeetsSeq3
end
section
variable{prog:Program}{w:World}{A:Around}{E:Value->Shared->Prop}{s:Shared}
theorem cat_tup{t b:Addr}{vs ws:List Value}{Q:Value->Shared->Prop}(ht:IsTup s.heap t vs.toArray)(hb:IsTup s.heap b ws.toArray)(hv:vs≠[])
  (h1:ws=[]->Q (.ref t) s) (h2:ws≠[]->Q (.ref s.heap.objs.size) { s with heap:=s.heap.push { cls:=.type "tuple",data:=.seq (vs++ws).toArray } })
  (hsz:vs.length+ws.length<=sizeLine):wpAny (model prog w) A (binaryOp .Add (.ref t) (.ref b)) Q E s:=by
 obtain⟨⟨cls,dd,data,sl⟩,ho,hc,n,hd⟩:=id ht;obtain⟨⟨cls2,dd2,data2,sl2⟩,ho2,hc2,n2,hd2⟩:=id hb;simp only at hc hd hc2 hd2;subst hc hd hc2 hd2;have e:vs.toArray++ws.toArray=(vs++ws).toArray:=by simp
 by_cases hw:ws=[]
 ·exact wN ⟨_,ho,rfl⟩ ⟨_,ho2,rfl⟩ CZ seq_tuple_add C0 C1 (C3 _ _)
   (tuple_addW1 t b vs.toArray ws.toArray n n2 dd dd2 sl sl2 (by simpa using hv) (by simp[hw])) ⟨ho,ho2,h1 hw⟩
 ·refine wN ⟨_,ho,rfl⟩ ⟨_,ho2,rfl⟩ CZ seq_tuple_add C0 C1 (C3 _ _)
   (tuple_addW2 t b vs.toArray ws.toArray n n2 dd dd2 sl sl2 (by simpa using hv) (by simpa using hw) (by rw[aQ,aQ];exact hsz)) ⟨ho,ho2,?_⟩
  rw[e];exact h2 hw
noncomputable def sIx(n d:Nat):Option Int->Nat
 |none=>d
 |some v=>if v<0 then (v+(n:Int)).toNat else min v.toNat n
theorem sIx_none(n d:Nat):sIx n d none=d:=rfl
theorem sIx_nat(n d k:Nat):sIx n d (some (k:Int))=min k n:=by
 show(if (k:Int)<0 then ((k:Int)+(n:Int)).toNat else min (k:Int).toNat n)=min k n
 rw[av (by omega),Int.toNat_natCast]
theorem E6(n d:Nat)(hd:d<=n)(o:Option Int):sIx n d o<=n:=by
 cases o with
 |none=>exact hd
 |some v=>
  show(if v<0 then (v+(n:Int)).toNat else min v.toNat n)<=n
  by_cases hv:v<0
  ·rw[ag hv];omega
  ·rw[av hv];exact Nat.min_le_right _ _
theorem y3(v:Int)(n d:Nat):(if v<0 then max (v+(n:Int)) 0 else min v (n:Int))=((sIx n d (some v):Nat):Int):=by
 show(if v<0 then max (v+(n:Int)) 0 else min v (n:Int))=(((if v<0 then (v+(n:Int)).toNat else min v.toNat n):Nat):Int)
 by_cases hv:v<0
 ·simp only[ag hv];omega
 ·simp only[av hv];omega
theorem E7(lo hi:Option Int)(n:Nat):Builtin.Slice.sliceAdjust lo hi 1 (n:Int)=(((sIx n 0 lo:Nat):Int),((sIx n n hi:Nat):Int)):=by
 have h1:¬((1:Int)<0):=by omega
 unfold Builtin.Slice.sliceAdjust;simp only[h1,dj];refine Prod.ext ?_ ?_
 ·cases lo with
  |none=>rfl
  |some v=>exact y3 v n 0
 ·cases hi with
  |none=>rfl
  |some v=>exact y3 v n n
theorem E8(i j:Nat):Builtin.Slice.slicePlaces (i:Int) (j:Int) 1=j-i:=by
 unfold Builtin.Slice.slicePlaces;have h1:(1:Int)>0:=by omega
 simp only[h1,aL,Int.ediv_one];split<;>omega
theorem slicePart_{v:Value}{o:Option Int}{Q:Option Int->Shared->Prop}(p:IsPart v o)(h:Q o s):wpAny (model prog w) A (Builtin.Slice.slicePartIndex v) Q E s:=by
 cases p with
 |none=>exact slicePart_none h
 |int i t=>exact slicePart_int h
theorem sliceApplied_gen{sl:Addr}{vl vu:Value}{lo hi:Option Int}{n:Nat}{Q:Int×Int×Nat->Shared->Prop}(hs:s.heap.IsSliceOf sl vl vu .none)(pl:IsPart vl lo)(pu:IsPart vu hi)
  (h:Q (((sIx n 0 lo:Nat):Int),1,sIx n n hi-sIx n 0 lo) s):wpAny (model prog w) A (Builtin.Slice.sliceApplied (.ref sl) (pure (n:Int))) Q E s:=by
 obtain⟨os,hos,hcs,hds⟩:=id hs;unfold Builtin.Slice.sliceApplied Builtin.Slice.sliceFields;refine ah (ah (eu hos hds (x:=vl) rfl (ah (eu hos hds (x:=vu) rfl (ah (eu hos hds (x:=.none) rfl (aA ?_)))))));refine ah (slicePart_none ?_);show wpAny _ _ (if ((1:Int)==0)=true then _ else _) _ _ s
 rw[av (by decide)];refine ah (slicePart_ pl (ah (slicePart_ pu (ah (aA ?_)))));show wpAny _ _ (match Builtin.Slice.sliceAdjust lo hi 1 (n:Int)with|(lo,hi)=>pure (lo,(1:Int),Builtin.Slice.slicePlaces lo hi 1)) _ _ s
 rw[E7 lo hi n];show wpAny _ _ (pure (((sIx n 0 lo:Nat):Int),(1:Int),Builtin.Slice.slicePlaces ((sIx n 0 lo:Nat):Int) ((sIx n n hi:Nat):Int) 1)) _ _ s;rw[E8];exact aA h
theorem E9(xs:Array Value)(i k:Nat):((List.range k).filterMap fun(m:Nat)=>xs[((i:Int)+(m:Int)*1).toNat]?).toArray=((xs.toList.drop i).take k).toArray:=by
 have e:(fun(m:Nat)=>xs[((i:Int)+(m:Int)*1).toNat]?)=fun m=>xs[i+m]?:=by
  funext m;have:((i:Int)+(m:Int)*1).toNat=i+m:=by omega
  rw[this]
 rw[e];have:=pick_run xs i k;rw[List.filterMap_map]at this;have e2:((fun x=>xs[x]?) ∘ fun x=>i+x)=fun m=>xs[i+m]?:=rfl;rw[e2]at this;rw[this]
theorem getItem_tuple_cut{t sl:Addr}{items:Array Value}{vl vu:Value}{lo hi:Option Int}{Q:Value->Shared->Prop}(ht:IsTup s.heap t items)(hs:s.heap.IsSliceOf sl vl vu .none)(pl:IsPart vl lo)(pu:IsPart vu hi)
  (hw:¬(sIx items.size 0 lo=0/\sIx items.size items.size hi=items.size))
  (h:Q (.ref s.heap.objs.size) { s with heap:=s.heap.push { cls:=.type "tuple",data:=.seq ((items.toList.drop (sIx items.size 0 lo)).take (sIx items.size items.size hi-sIx items.size 0 lo)).toArray } })
  (hsz:items.size<=sizeLine):wpAny (model prog w) A (getItem (.ref t) (.ref sl)) Q E s:=by
 have htake:sizeOk (.seq ((items.toList.drop (sIx items.size 0 lo)).take (sIx items.size items.size hi-sIx items.size 0 lo)).toArray):=by
  show((items.toList.drop (sIx items.size 0 lo)).take (sIx items.size items.size hi-sIx items.size 0 lo)).toArray.size<=sizeLine;rw[aQ,kg,mY,Array.length_toList];omega
 have hj:sIx items.size items.size hi<=items.size:=E6 _ _ (aF _) hi;obtain⟨os,hos,hcs,hds⟩:=id hs;have hTs:s.TypeIs (.ref sl) "slice":=⟨os,hos,hcs⟩
 unfold getItem
 try with_reducible refine jn ?_
 first|refine ah (aA ?_)|skip
 refine ah (C4 ht.typeIs (by decide) ?_);refine ah (mZ (name:=Str.ofString "__getitem__") ht.typeIs kh
  (lK kh ht.typeIs entry_tuple_getitem ?_ (args_tuple_getitem _ _)))
 show wpAny _ _ (Builtin.Tuple.tupleItemsOf (.ref t)>>=_) _ _ s;refine ah (tupleItemsOf_ ht ?_);refine ah (wO hTs ?_);rw[ag (by decide)];refine ah (sliceApplied_gen hs pl pu ?_);have hno:¬((((sIx items.size 0 lo:Nat):Int)==0&&(1:Int)==1&&(sIx items.size items.size hi-sIx items.size 0 lo)==items.size)=true):=by
  intro q;rw[aG,aG]at q;have q1:((sIx items.size 0 lo:Nat):Int)=0:=aB q.1.1;have q2:sIx items.size items.size hi-sIx items.size 0 lo=items.size:=aB q.2;exact hw ⟨by omega,by omega⟩
 show wpAny _ _ (if (((sIx items.size 0 lo:Nat):Int)==0&&(1:Int)==1&&(sIx items.size items.size hi-sIx items.size 0 lo)==items.size)=true then _ else _) _ _ s
 rw[av hno,E9]
 first
  |exact ah (m:=Builtin.Tuple.tupleExact _) (fQ (aA ⟨_,rfl,aA h⟩) htake)
  |exact ah (m:=Builtin.Tuple.tupleExact _) (fQ (ah (aA (aA ⟨_,rfl,aA h⟩))) htake)
  |exact ah (ah (m:=Builtin.Tuple.tupleExact _) (fQ (aA (aA ⟨_,rfl,aA h⟩)) htake))
  |exact ah (ah (m:=Builtin.Tuple.tupleExact _) (fQ (aA ⟨_,rfl,aA h⟩) htake))
end
end HT
namespace L2
open PySem PySem.Spec PyProof.Rows
noncomputable abbrev TO:=St->Hp->(Option Int->Hp->Prop)->Prop
section
variable{X:Cx}{e:Expr}{te:TE}{lo hi:Option Expr}{tl th:TO}{pos p2:Pos}
noncomputable def y5(X:Cx)(r:V->Option Int->Option Int->Hp->VK->Prop):Prop:=
 ∀(pins:List (Addr×Obj))(s:Shared)(σ:St)(H:Hp)(x:V)(v vl vu:Value)(lo hi:Option Int)(sl:Addr)(Q:VK),Inv X pins σ H s->RelV x v->s.heap.IsSliceOf sl vl vu .none->IsPart vl lo->IsPart vu hi->r x lo hi H Q ->
  ∃T id,typeLookup (.type T) "__getitem__"=pure (some (.builtin id))/\s.TypeIs v T/\wpAny (model X.prog X.w) X.A (getItem v (.ref sl)) (EP X pins σ Q) X.xe s
noncomputable def g_(xs:List V)(lo hi:Option Int):List V:=(xs.drop (HT.sIx xs.length 0 lo)).take (HT.sIx xs.length xs.length hi-HT.sIx xs.length 0 lo)
theorem y6(xs:List V)(lo hi:Option Int):(g_ xs lo hi).length<=xs.length:=by
 unfold g_;rw[kg,mY];omega
noncomputable def E_(K:PySem.W.Frag):V->Option Int->Option Int->Hp->VK->Prop:=fun x lo hi H Q=>∃a xs,x=.ref a/\bv K H a xs /\
 ¬(HT.sIx xs.length 0 lo=0/\HT.sIx xs.length xs.length hi=xs.length)/\∀p,H p=none->Q (.ref p) (ay H p (.tup (g_ xs lo hi)))
theorem Fa:y5 X (E_ X.K):=by
 intro pins s σ H x v vl vu lo hi sl Q I rx hs pl pu h;obtain⟨a,xs,rfl,hx,hw,q⟩:=h;cases rx;obtain⟨its,r,ht,hz⟩:=I.tuple hx;have hlen:its.toArray.size=xs.length:=by rw[aQ];exact r.length.symm
 refine⟨"tuple",_,kh.lookup,ht.typeIs,?_⟩;refine HT.getItem_tuple_cut ht hs pl pu (by rw[hlen];exact hw) ?_ (by rw[hlen];exact hz);rw[hlen];refine⟨.ref s.heap.objs.size,_,I.laid (t':=s.toks) (o:=.tup (g_ xs lo hi)) (fun b ob q=>bb _ q) (aF _) ?_,rfl,q _ (I.hok.fresh (aF _))⟩;exact⟨eP (y6 xs lo hi) hz,_,(r.drop (HT.sIx xs.length 0 lo)).take (HT.sIx xs.length xs.length hi-HT.sIx xs.length 0 lo),IsTup.new _ _⟩
theorem Fb:kI X (.type "tuple") (fun xs H Q=>∃a ys,xs=[.ref a]/\bv X.K H a ys/\Q (.ref a) H):=by
 intro pins s σ H xs us Q I r h;obtain⟨a,ys,rfl,ha,q⟩:=h;obtain⟨u,rfl,ru⟩:=vals1 r;cases ru;obtain⟨its,_,p1,_⟩:=I.tuple ha;exact call_tuple_same (items:=its.toArray) p1 ⟨.ref a,H,I,rfl,q⟩
end
end L2
namespace L2
open PySem PySem.Spec PyProof.Rows
noncomputable def eR(n:Nat)(i:Int):Option Nat:=if 0<=i then (if i<n then some i.toNat else none) else if -(n:Int)<=i then some (i+n).toNat else none
noncomputable def bn{α:Type}(xs:List α)(i:Int):Option α:=(eR xs.length i).bind fun j=>xs[j]?
theorem y7{n:Nat}{i:Int}{j:Nat}(h:eR n i=some j):seqIndex? i n=some j/\j<n/\-(n:Int)<=i/\i<n:=by
 unfold eR at h;by_cases h0:0<=i
 ·rw[ag h0]at h;by_cases h1:i<n
  ·rw[ag h1]at h;have e:i.toNat=j:=eO h;exact⟨by rw[seqIndex_of h0 h1,e],by omega,by omega,h1⟩
  ·rw[av h1]at h;cases h
 ·rw[av h0]at h;by_cases h1:-(n:Int)<=i
  ·rw[ag h1]at h;have e:(i+n).toNat=j:=eO h;exact⟨by rw[seqIndex_neg (by omega) h1,e],by omega,h1,by omega⟩
  ·rw[av h1]at h;cases h
theorem y8{α:Type}{xs:List α}{i:Int}{v:α}(h:bn xs i=some v):∃j,seqIndex? i xs.length=some j/\xs[j]?=some v/\j<xs.length/\-(xs.length:Int)<=i/\i<xs.length:=by
 unfold bn at h;cases e:eR xs.length i with
 |none=>rw[e]at h;cases h
 |some j=>
  rw[e]at h;obtain⟨h1,h2,h3,h4⟩:=y7 e;exact⟨j,h1,h,h2,h3,h4⟩
theorem qt{α:Type}(xs:List α)(v:α):bn (xs++[v]) (-1)=some v:=by
 have hl:(xs++[v]).length=xs.length+1:=by simp
 have e:eR (xs++[v]).length (-1)=some xs.length:=by
  unfold eR;rw[hl,av (by decide),ag (by omega)];congr 1;omega
 unfold bn;rw[e];show(xs++[v])[xs.length]?=some v;simp
noncomputable def tV(b:Expr):Prop:=∀o i,subscripted b false o i=operate [o,i] (getItem o i)
noncomputable def y9(X:Cx)(r:R2):Prop:=
 ∀(value slice:Expr)(pins:List (Addr×Obj))(s:Shared)(σ:St)(H:Hp)(x y:V)(v u:Value)(Q:VK),Inv X pins σ H s->RelV x v->RelV y u->r x y H Q ->
  subscripted slice false v u=operate [v,u] (getItem v u)->wpAny (model X.prog X.w) X.A (subscriptTail value slice v u) (EP X pins σ Q) X.xe s
section
variable{X:Cx}{a b:Expr}{ta tb:TE}{pos:Pos}
noncomputable def Fc(K:PySem.W.Frag):R2:=fun x y H Q=>∃p xs i v,x=.ref p/\y=.int i/\br K H p xs/\bn xs i=some v/\Q v H
noncomputable def Fd(K:PySem.W.Frag):R2:=fun x y H Q=>∃p xs i v,x=.ref p/\y=.int i/\bv K H p xs/\bn xs i=some v/\Q v H
theorem y_:y9 X (Fc X.K):=by
 intro value slice pins s σ H x y v u Q I rx ry h hs;obtain⟨p,xs,i,z,rfl,rfl,hq,he,q⟩:=h;cases rx;obtain⟨t,rfl⟩:=ry;obtain⟨its,r,pl,hz⟩:=I.list hq;obtain⟨j,h1,h2,h3,h4,h5⟩:=y8 he;obtain⟨w,ew,rw'⟩:=r.get h2;have hl:=r.length;have hn:=lW;have fin:EP X pins σ Q w s:=⟨z,H,I,rw',q⟩
 by_cases h0:0<=i
 ·have hj:i.toNat=j:=by
   rw[seqIndex_of h0 h5]at h1;exact eO h1
  exact item_listR pl.isList h0 (by omega) (by rw[hj];simpa using ew) fin hs
 ·have hj:(i+(its.toArray.size:Int)).toNat=j:=by
   rw[seqIndex_neg (by omega) h4]at h1;rw[aQ,←hl];exact eO h1
  exact subscriptTail_builtinR (x:=w) pl.isList.typeIs C5.lookup
   (wpAny_getItem_list_neg (Q:=fun r s'=>r=w/\EP X pins σ Q r s') pl.isList (by omega) (by rw[aQ]<;>omega) (by omega) (by rw[hj];simpa using ew) ⟨rfl,fin⟩) hs
theorem Fe:y9 X (Fd X.K):=by
 intro value slice pins s σ H x y v u Q I rx ry h hs;obtain⟨p,xs,i,z,rfl,rfl,hq,he,q⟩:=h;cases rx;obtain⟨t,rfl⟩:=ry;obtain⟨its,r,pl,hz⟩:=I.tuple hq;obtain⟨j,h1,h2,h3,h4,h5⟩:=y8 he;obtain⟨w,ew,rw'⟩:=r.get h2;have hl:=r.length;have hn:=lW;have fin:EP X pins σ Q w s:=⟨z,H,I,rw',q⟩
 exact subscriptTail_builtinR (x:=w) pl.typeIs slot_tuple_getitem.lookup
  (getItem_tuple (j:=j) (Q:=fun r s'=>r=w/\EP X pins σ Q r s') pl (by omega) (by omega) (by rw[aQ,←hl];exact h1) (by simpa using ew) ⟨rfl,fin⟩) hs
theorem Ff(its:List Value)(n j:Nat)(u:Value):Obj.mapSeq (·.setIfInBounds j u) { cls:=.type "list",data:=.seq its.toArray n }={ cls:=.type "list",data:=.seq (its.set j u).toArray n }:=by
 simp[Obj.mapSeq]
theorem Inv.lst{pins:List (Addr×Obj)}{σ:St}{H:Hp}{s:Shared}{p:Addr}{xs:List V}(I:Inv X pins σ H s)(h:H p=some (.lst xs)) :
  ∃(its:List Value)(n:Nat),az xs its/\s.heap.get? p=some { cls:=.type "list",data:=.seq its.toArray n }/\xs.length<=sizeLine:=by
 obtain⟨z,its,n,r,e⟩:=I.hok p _ h;exact⟨its,n,r,e,z⟩
theorem Inv.lstUpd{pins:List (Addr×Obj)}{σ:St}{H:Hp}{s:Shared}{p:Addr}{xs ys:List V}{its its':List Value}{n n':Nat}{f:Obj->Obj}(I:Inv X pins σ H s)(h:H p=some (.lst xs))
  (ho:s.heap.get? p=some { cls:=.type "list",data:=.seq its.toArray n }) (hf:f { cls:=.type "list",data:=.seq its.toArray n }={ cls:=.type "list",data:=.seq its'.toArray n' }) (r:az ys its') (hz:ys.length<=sizeLine) (t:Nat) :
  Inv X pins σ (ay H p (.lst ys)) { s with heap:=s.heap.update p f,toks:=t }:=by
 have e:(s.heap.update p f).get? p=some { cls:=.type "list",data:=.seq its'.toArray n' }:=by
  rw[wP f ho (by rw[hf]<;>rfl),hf]
 refine I.write (x:=p) (e:=p) (by rw[h];trivial) (.inl rfl) (fun b u hb q=>(lL _ _ (a7 hb)).trans q) ⟨_,e⟩ ?_;exact⟨hz,its',n',r,e⟩
noncomputable def Fg:V->V->V->Hp->(Hp->Prop)->Prop:=fun o i v H Q=>∃p xs k j,o=.ref p/\i=.int k/\H p=some (.lst xs)/\eR xs.length k=some j/\Q (ay H p (.lst (xs.set j v)))
theorem Fh:EA X Fg:=by
 intro pins s σ H o i v ov iv u Q I ro ri rv h;obtain⟨p,xs,k,j,rfl,rfl,hp,hj,q⟩:=h;cases ro;obtain⟨t,rfl⟩:=ri;obtain⟨its,n,r,ho,hz⟩:=I.lst hp;obtain⟨h1,h2,h3,h4⟩:=y7 hj;have hl:=r.length;have hn:=lW;have I':Inv X pins σ (ay H p (.lst (xs.set j v))) { s with heap:=s.heap.update p (Obj.mapSeq (·.setIfInBounds j u)) }:=
  I.lstUpd hp ho (Ff its n j u) (r.set rv j) (by rw[List.length_set];exact hz) s.toks
 by_cases h0:0<=k
 ·have hk:k.toNat=j:=by
   rw[seqIndex_of h0 h4]at h1;exact eO h1
  exact PySem.W.ki_setAt ho h0 (by omega) (by rw[aQ,←hl];exact h4) (by rw[hk];exact⟨_,I',q⟩)
 ·have hk:(k+(its.toArray.size:Int)).toNat=j:=by
   rw[seqIndex_neg (by omega) h3]at h1;rw[aQ,←hl];exact eO h1
  exact PySem.W.ki_setBack ho (by omega) (by rw[aQ,←hl];exact h3) (by omega) (by rw[hk];exact⟨_,I',q⟩)
theorem Fi(lo hi:Option Int)(n:Nat):(sliceBounds lo hi none n).1=((HT.sIx n 0 lo:Nat):Int)/\(sliceBounds lo hi none n).2.1=((HT.sIx n n hi:Nat):Int)/\(sliceBounds lo hi none n).2.2=1:=by
 refine⟨?_,?_,rfl⟩
 ·cases lo with
  |none=>simp[sliceBounds,HT.sIx]
  |some i=>
   simp only[sliceBounds,HT.sIx,Option.getD_none,show(1:Int)>0 by decide,aL];by_cases h:i<0
   ·simp only[h,aL]<;>omega
   ·simp only[h,dj]<;>omega
 ·cases hi with
  |none=>simp[sliceBounds,HT.sIx]
  |some i=>
   simp only[sliceBounds,HT.sIx,Option.getD_none,show(1:Int)>0 by decide,aL];by_cases h:i<0
   ·simp only[h,aL]<;>omega
   ·simp only[h,dj]<;>omega
theorem Fj(its:List Value)(lo hi:Option Int):slicePick its.toArray lo hi none=((its.drop (HT.sIx its.length 0 lo)).take (HT.sIx its.length its.length hi-HT.sIx its.length 0 lo)).toArray:=by
 obtain⟨h1,h2,h3⟩:=Fi lo hi its.toArray.size;unfold slicePick;rw[h1,h2,h3];simp only[sliceRange_one,pick_run,aQ]<;>rfl
noncomputable def Fk(K:PySem.W.Frag):V->Option Int->Option Int->Hp->VK->Prop:=fun x lo hi H Q=>∃a xs,x=.ref a/\br K H a xs/\∀p,H p=none->Q (.ref p) (ay H p (.lst (g_ xs lo hi)))
theorem Fm:y5 X (Fk X.K):=by
 intro pins s σ H x v vl vu lo hi sl Q I rx hs pl pu h;obtain⟨a,xs,rfl,hx,q⟩:=h;cases rx;obtain⟨its,r,ht,hz⟩:=I.list hx;have hlen:=r.length;refine⟨"list",_,C5.lookup,ht.isList.typeIs,?_⟩;refine wpAny_getItem_list_slice ht.isList hs pl pu .none (by simp) ?_ (by rw[aQ]<;>omega);rw[Fj,←hlen];refine⟨.ref s.heap.objs.size,_,I.laid (t':=s.toks) (o:=.lst (g_ xs lo hi)) (fun b ob q=>bb _ q) (aF _) ?_,rfl,q _ (I.hok.fresh (aF _))⟩;exact⟨eP (y6 xs lo hi) hz,_,0,(r.drop (HT.sIx xs.length 0 lo)).take (HT.sIx xs.length xs.length hi-HT.sIx xs.length 0 lo),ci _ rfl⟩
theorem Fn:kI X (.builtin "len") (fun xs H Q=>∃p ys,xs=[.ref p]/\(br X.K H p ys\/bv X.K H p ys)/\Q (.int ys.length) H):=by
 intro pins s σ H xs us Q I r h;obtain⟨p,ys,rfl,hq,q⟩:=h;obtain⟨u,rfl,rx⟩:=vals1 r;cases rx;have hn:=lW;rcases hq with hq|hq
 ·obtain⟨its,r',pl,hz⟩:=I.list hq;have hlen:=r'.length;exact Calls.call_len_list pl.isList (by simp only[aQ]<;>omega) ⟨.int ys.length,H,I.tok _,⟨s.toks+1,by rw[aQ,hlen]⟩,q⟩
 ·obtain⟨its,r',pl,hz⟩:=I.tuple hq;have hlen:=r'.length;exact len_tuple pl (by simp only[aQ]<;>omega) ⟨.int ys.length,H,I.tok _,⟨s.toks+1,by rw[aQ,hlen]⟩,q⟩
theorem Fo:kI X (.builtin "len") (fun xs H Q=>∃z,xs=[.str z]/\z.length<=sizeLine/\Q (.int z.length) H):=by
 intro pins s σ H xs us Q I r h;obtain⟨z,rfl,hz,q⟩:=h;obtain⟨u,rfl,t,rfl⟩:=vals1 r;have hn:=lW;exact len_str (by omega) ⟨.int z.length,H,I.tok _,⟨_,rfl⟩,q⟩
theorem za:kI X (.type "list") (fun xs H Q=>∃p ys,xs=[.ref p]/\(br X.K H p ys\/bv X.K H p ys)/\∀l,H l=none->Q (.ref l) (ay H l (.lst ys))):=by
 intro pins s σ H xs us Q I r h;obtain⟨p,ys,rfl,hq,q⟩:=h;obtain⟨u,rfl,rx⟩:=vals1 r;cases rx;have fin:∀(its:List Value),az ys its->ys.length<=sizeLine->∀(h':Heap)(c':Nat),(∀b o',s.heap.get? b=some o'->h'.get? b=some o') ->
   h'.get? s.heap.objs.size=some { cls:=.type "list",dict:=none,data:=.seq its.toArray c',slots:=#[] }->EP X pins σ Q (.ref s.heap.objs.size) { s with heap:=h' }:=fun its r' hz h' c' kp e=>
  ⟨.ref s.heap.objs.size,_,I.laid (t':=s.toks) kp (aF _) (show cN X.prog X.w _ h' _ (.lst ys) from⟨hz,its,c',r',e⟩),rfl,q _ (I.hok.fresh (aF _))⟩
 rcases hq with hq|hq
 ·obtain⟨its,r',pl,hz⟩:=I.list hq;have hlen:=r'.length;obtain⟨o,ho,hc,n,hd⟩:=pl.isList;exact call_list_seq p (.inl rfl) ho hc hd (fun h' c' kp e=>fin its r' hz h' c' kp e) (by simp only[aQ]<;>omega)
 ·obtain⟨its,r',pl,hz⟩:=I.tuple hq;have hlen:=r'.length;obtain⟨o,ho,hc,n,hd⟩:=pl;exact call_list_seq p (.inr rfl) ho hc hd (fun h' c' kp e=>fin its r' hz h' c' kp e) (by simp only[aQ]<;>omega)
theorem Fp:kI X (.type "tuple") (fun xs H Q=>∃p ys,xs=[.ref p]/\((br X.K H p ys/\∀l,H l=none->Q (.ref l) (ay H l (.tup ys)))\/(bv X.K H p ys/\Q (.ref p) H))):=by
 intro pins s σ H xs us Q I r h;obtain⟨p,ys,rfl,h⟩:=h;obtain⟨u,rfl,rx⟩:=vals1 r;cases rx;rcases h with ⟨hq,q⟩|⟨hq,q⟩
 ·obtain⟨its,r',pl,hz⟩:=I.list hq;have hlen:=r'.length;refine call_tuple_list pl.isList (fun h' kp=>?_) (by simp only[aQ]<;>omega);have I1:Inv X pins σ H { s with heap:=h' }:=I.kept (t':=s.toks) kp;have I2:Inv X pins σ (ay H h'.objs.size (.tup ys)) { s with heap:=h'.push { cls:=.type "tuple",data:=.seq its.toArray } }:=
   I1.laid (t':=s.toks) (fun b o e=>bb _ e) (aF _) (show cN X.prog X.w _ _ _ (.tup ys) from⟨hz,its,r',IsTup.new _ _⟩)
  exact⟨.ref h'.objs.size,_,I2,rfl,q _ (I1.hok.fresh (aF _))⟩
 ·obtain⟨its,r',pl,hz⟩:=I.tuple hq;exact call_tuple_same pl ⟨.ref p,H,I,rfl,q⟩
variable{o e:Expr}{es:List Expr}{to:TE}{t:TA}{name:Str}{apos cpos:Pos}{T id:String}{r:V->List V->Hp->VK->Prop}
end
end L2
namespace L2
open PySem PySem.Spec PyProof.Rows
noncomputable def zb(X:Cx)(id:String)(r:V->List V->Hp->VK->Prop):Prop:=
 ∀(pins:List (Addr×Obj))(s:Shared)(σ:St)(H:Hp)(x:V)(xs:List V)(v:Value)(us:List Value)(Q:VK),Inv X pins σ H s->RelV x v->az xs us->r x xs H Q ->
  wpAny (model X.prog X.w) X.A (call (.builtin id) (v::us)) (EP X pins σ Q) X.xe s
theorem az.one:∀{x:V}{us:List Value},az [x] us->∃u,us=[u]/\RelV x u
 |_,_,.cons r .nil=>⟨_,rfl,r⟩
theorem az.zero:∀{us:List Value},az [] us->us=[]
 |_,.nil=>rfl
theorem az.dropLast{xs:List V}{us:List Value}(h:az xs us):az xs.dropLast us.dropLast:=by
 induction h with
 |nil=>exact .nil
 |cons r t ih=>
  cases t with
  |nil=>exact .nil
  |cons q t'=>exact .cons r ih
theorem az.reverse{xs:List V}{us:List Value}(h:az xs us):az xs.reverse us.reverse:=by
 induction h with
 |nil=>exact .nil
 |cons r t ih=>rw[wQ,wQ];exact az.append ih (.cons r .nil)
theorem tW{α:Type}(l:List α):l.eraseIdx (l.length-1)=l.dropLast:=by
 induction l with
 |nil=>rfl
 |cons a r ih=>
  cases r with
  |nil=>rfl
  |cons b r=>
   have e:(a::b::r).length-1=((b::r).length-1)+1:=by
    have h1:(a::b::r).length=r.length+2:=rfl;have h2:(b::r).length=r.length+1:=rfl;omega
   rw[e,List.eraseIdx_cons_succ,ih]
   all_goals rfl
section
variable{X:Cx}{pins:List (Addr×Obj)}{σ:St}{H:Hp}{s:Shared}{l b:Addr}{xs ys zs:List V}
theorem Inv.lset{its its':List Value}{n:Nat}{f:Array Value->Array Value}{t':Nat}(I:Inv X pins σ H s)(hH:H l=some (.lst xs))
  (e:s.heap.get? l=some { cls:=.type "list",data:=.seq its.toArray n }) (hf:f its.toArray=its'.toArray) (hv:az ys its') (hz:ys.length<=sizeLine) :
  Inv X pins σ (ay H l (.lst ys)) { s with heap:=s.heap.update l (Obj.mapSeq f),toks:=t' }:=by
 have q:=PySem.IsL.update e f;rw[hf]at q;refine I.write (x:=l) (e:=l) (by rw[hH];exact trivial) (.inl rfl) (fun b' u hb hu=>(lL s.heap (Obj.mapSeq f) (a7 hb)).trans hu) ⟨_,q⟩ ?_;exact⟨hz,its',_,hv,q⟩
theorem Inv.lstM(I:Inv X pins σ H s)(hH:H l=some (.lst xs)):xs.length<=sizeLine/\∃(its:List Value)(n:Nat),az xs its/\xs.length=its.length/\s.heap.get? l=some { cls:=.type "list",data:=.seq its.toArray n }:=by
 obtain⟨z,its,n,r,e⟩:=I.hok l _ hH;exact⟨z,its,n,r,r.length,e⟩
theorem Fq{n:Nat}(h:n<=sizeLine):Builtin.List.listTooLong n=false:=by
 unfold Builtin.List.listTooLong;exact eN (by omega)
end
section
variable{X:Cx}
noncomputable def Fs:V->List V->Hp->VK->Prop:=fun x vs H Q=>∃l xs y,x=.ref l/\vs=[y]/\H l=some (.lst xs)/\xs.length<sizeLine/\Q .non (ay H l (.lst (xs++[y])))
theorem Ft:zb X "list.append" Fs:=by
 intro pins s σ H x vs v us Q I rx rv h;obtain⟨l,xs,y,rfl,rfl,hH,hz,q⟩:=h;cases rx;obtain⟨u,rfl,ru⟩:=rv.one;obtain⟨z,its,n,r,hl,e⟩:=I.lstM hH;refine iB F.slot_list_append ⟨_,e,rfl⟩ F.entry_list_append (F.args_list_append_2 _ _) (PySem.list_append l its.toArray n u (by rw[aQ];omega)) ⟨e,?_⟩;refine⟨.non,_,I.lset (its':=its++[u]) hH e (by simp) (r.append (.cons ru .nil)) ?_,rfl,q⟩;rw[en,List.length_singleton];omega
noncomputable def Fu:V->List V->Hp->VK->Prop:=fun x vs H Q=>∃l xs y,x=.ref l/\vs=[]/\H l=some (.lst xs)/\xs[xs.length-1]?=some y/\Q y (ay H l (.lst xs.dropLast))
theorem Fv:zb X "list.pop" Fu:=by
 intro pins s σ H x vs v us Q I rx rv h;obtain⟨l,xs,y,rfl,rfl,hH,hy,q⟩:=h;cases rx;have hus:=rv.zero;subst hus;obtain⟨z,its,n,r,hl,e⟩:=I.lstM hH;obtain⟨u,hu,ru⟩:=r.get hy;have hy':its.toArray[its.toArray.size-1]?=some u:=by
  show its.toArray[its.length-1]?=some u;rw[←Array.getElem?_toList,←hl];exact hu
 refine iB F.slot_list_pop ⟨_,e,rfl⟩ F.entry_list_pop (F.args_list_pop_1 _) (MeetsSeq.list_pop_last l its.toArray n u hy' (by rw[aQ];omega)) ⟨e,?_⟩;refine⟨y,_,I.lset (its':=its.dropLast) hH e ?_ r.dropLast ?_,ru,q⟩
 ·show its.toArray.eraseIdxIfInBounds (its.toArray.size-1)=its.dropLast.toArray;rw[aQ,List.eraseIdxIfInBounds_toArray,tW]
 ·rw[List.length_dropLast];omega
end
section
variable{prog:Program}{w:World}{A:Around}{E:Value->Shared->Prop}{s:Shared}
end
section
variable{X:Cx}
end
end L2
namespace Att
open PySem PySem.W PySem.Calls PyProof.Rows
theorem Fw{P:Params}{h:Heap}:∀(ns:List Int)(vs:List Value),WellAll P h vs (ns.map WData.int)->IntsAre vs ns:=by
 intro ns
 induction ns with
 |nil=>
  intro vs w;rw[ez]at w;cases w;exact .nil
 |cons n ns ih=>
  intro vs w;rw[aZ]at w;cases w with
  |cons a b=>
   cases a;exact .cons _ _ (ih _ b)
theorem Fx{l:OpenLaw}{n:Nat}(hn:l.most=some n){P:Params}{h:Heap}{args:List WData}{vals:List Value}
  (hpre:l.row.toRowW.claim.pre args=true) (hwl:WellAll P h vals args) :
  ∃a vs ns,vals=[Value.ref a]/\args=[WData.list (ns.map WData.int)]/\h.get? a=some { cls:=.type "list",data:=.seq vs.toArray }/\IntsAre vs ns/\ns.length<=n:=by
 have hsh:WShape.hasAll [] args [.list .int]=true:=(pre_splitW hpre).1;have hc:l.pre.holds [] { args:=args }=true:=(pre_splitW hpre).2;obtain⟨d,r,rfl,h1,h2⟩:=hasAllW_cons hsh;obtain rfl:=hasAllW_nil h2;obtain⟨xs,rfl,h3⟩:=hasW_list h1;obtain⟨ns,rfl⟩:=items_int h3;have hlen:ns.length<=n:=by
  unfold OpenLaw.pre at hc;have h4:(WTm.not (.lt (.lit (.int (n:Int))) (.len (.arg 0)))).holds [] { args:=[.list (ns.map .int)] }=true:=by
   have h4:=(holds_andW hc).1;rw[hn]at h4;exact h4
  have h5:=condW_of h4 (w_not (w_lt w_lit (w_len_list (w_arg rfl))));rw[aw]at h5;refine Nat.le_of_not_lt fun q=>?_;have q':(n:Int)<((ns.length:Nat):Int):=by omega
  first
   |(rw[gP q']at h5;exact absurd h5 (by decide))
   |(simp at h5;omega)
 cases hwl with
 |cons w1 w2=>
  cases w2;cases w1 with
  |list ho hall=>exact⟨_,_,ns,rfl,rfl,ho,Fw ns _ hall,hlen⟩
theorem Fy(l:OpenLaw)(args:List WData):l.row.toRowW.claim.post args (.bool true) args=true:=
 postW_of (r:=l.row.toRowW) (X:=(true==true))
  (show WShape.has [] (.bool true) .bool=true by first|rfl|decide|simp[WShape.has,WShape.arms,WShape.armsAll])
  (show(WTm.eq .res (.lit (.bool true))).value [] { args:=args,res:=some (.bool true),after:=args }=some (.bool (true==true)) from w_eq_bool (w_res rfl) w_lit) rfl
theorem attach_call{l:OpenLaw}{n:Nat}{q:Program}{loose:List Str}{XP:(Str->Option Value)->Heap->Prop}{YP:World->Heap->Prop}{d:DefRec}
  (hn:l.most=some n) (hdf:d.params.defaults=[])
  (call:∀(w:World)(s₀ s₁:Shared)(mg mb:Str->Option Value)(fa:Addr)(o:Obj)(pm cd doc:Value)(a:Addr)(vs:List Value)(ns:List Int),
   Ground q loose [] XP w s₀ mg mb s₁.heap->YP w s₁.heap ->
   s₁.heap.get? fa=some o->o.data=.func (docDef d.name d.params d.body d.scope pm cd doc)->s₁.heap.CodeRec cd d.name->mg d.name=some (.ref fa) ->
   s₁.heap.get? a=some { cls:=.type "list",data:=.seq vs.toArray }->IntsAre vs ns->ns.length<=n->s₁.gens=#[] ->
   codeAny (model l.prog w) callerA (.call (.ref fa) ⟨[.ref a],[]⟩) (fun r s'=>r=.ok (.ret (.bool true))/\OldK s₁.heap s'.heap/\s'.os=s₁.os/\AllBare s'.gens) s₁) :
  WalkO q loose XP YP l.row.toRowW d [] (fun f vs=>PySem.call f vs):=by
 intro w s₀ s₁ mg mb G Y fa o pm cd doc dV kV ho hd hcd hD hmg hg args vals as hpre hlay hrd hwl hlo;obtain rfl:dV=.none:=Dflts.none hD hdf;obtain rfl:kV=.none:=Dflts.noKw hD;obtain⟨a,vs,ns,rfl,rfl,hobj,hints,hlen⟩:=Fx hn hpre hwl;refine enter_call (mX (call w s₀ s₁ mg mb fa o pm cd doc a vs ns G Y ho (fd_plain hd) hcd hmg hobj hints hlen hg) fun r s' hq=>?_);obtain⟨rfl,h2,h3,h4⟩:=hq;exact⟨.inl ⟨.bool true,.bool true,[],rfl,fun _=>rfl,.bool true,Fy l _,fun _=>⟨List.Pairwise.nil,fun _ hm=>(nomatch hm)⟩⟩,h2,h3,h4⟩
section
variable{prog:Program}{w:World}{A:Around}{E:Value->Shared->Prop}{s:Shared}{K:Frag}
end
end Att
namespace L2
open PySem PySem.Spec PyProof.Rows
theorem zc:∀{vs:List Value}{ns:List Int},IntsAre vs ns->az (ns.map V.int) vs
 |_,_,.nil=>.nil
 |_,_,.cons n t h=>.cons ⟨t,rfl⟩ (zc h)
noncomputable def tX(H:Hp):Prop:=∀b,H b=none\/∃o xs,H b=some (.frz o (.lst xs))
theorem ze{P:Program}{w:World}{K:PySem.W.Frag}{mg mb:Str->Option Value}{CX:fA}{k:Nat}{fa a:Addr}{fd:FuncData}{x:Str}{sp:Sp}{s₁:Shared}{vs:List Value}{ns:List Int}
  (KX:K.In s₁.heap) (hns:s₁.heap.Ns mainGlobals mg) (hb:s₁.heap.Ns builtinsNs mb) (hbb:∀x:Str,x≠"__name__"->mb x=bootBuiltins x) (hlim:s₁.heap.NoLimit) (hg:s₁.gens=#[])
  (ha:s₁.heap.get? a=some { cls:=.type "list",data:=.seq vs.toArray }) (hi:IntsAre vs ns) (hl:ns.length<=sizeLine) (hr:bj k callerA)
  (F:∀base:Heap,K.In base->base.Ns mainGlobals mg->bZ P w K mg base CX k fa fd [x] sp) (hbind:∀(s:Shared)(u:Value),BindsTo s fd ⟨[u],[]⟩ [(x,u)])
  (hsp:∀H:Hp,tX H->br K H a (ns.map V.int)->sp [.ref a] H (fun v _=>v=.bl true) fun _ _ _=>False)
  (hCX:∀H e s',CX [] H s₁ (fun _ _ _=>False) e s'->False) :
  codeAny (model P w) callerA (.call (.ref fa) ⟨[.ref a],[]⟩) (fun r s'=>r=.ok (.ret (.bool true))/\OldK s₁.heap s'.heap/\s'.os=s₁.os/\AllBare s'.gens) s₁:=by
 have rv:=zc hi;have lenV:=hi.length
 -- from an abstract heap in which nothing but the script may be tracked
 have core:∀H:Hp,tX H->br K H a (ns.map V.int)->bC P w H s₁.heap->(∀b,H b≠none->b=a)->(H a≠none->K.lookup a=none) ->
   codeAny (model P w) callerA (.call (.ref fa) ⟨[.ref a],[]⟩) (fun r s'=>r=.ok (.ret (.bool true))/\OldK s₁.heap s'.heap/\s'.os=s₁.os/\AllBare s'.gens) s₁:=by
  intro H hO hS hok hA hK;have base_of:∀{b:Addr}{o:Obj},s₁.heap.get? b=some o->H b=none->(iO s₁.heap H).get? b=some o:=fun e n=>Eo e n;have noA:∀{b:Addr}{o:Obj}{es:Array DictEntry}{ep:Nat},s₁.heap.get? b=some o->o.data=.dict es ep->H b=none:=fun {b o es ep} e d=>by
   cases q:H b with
   |none=>rfl
   |some u=>
    have e':b=a:=hA b (by rw[q];simp);subst e';rw[ha]at e;cases e;have d':Data.seq vs.toArray _=Data.dict es ep:=d;cases d'
  have nsK:∀{b:Addr}{m:Str->Option Value},s₁.heap.Ns b m->(iO s₁.heap H).Ns b m:=fun {b m} ⟨o,es,ep,e,d,r⟩=>⟨o,es,ep,base_of e (noA e d),d,r⟩
  have hKb:K.In (iO s₁.heap H):=fun b o e=>base_of (KX b o e) (by
   cases q:H b with
   |none=>rfl
   |some u=>
    have e':b=a:=hA b (by rw[q];simp);subst e';rw[hK (by rw[q];simp)]at e;cases e)
  have hM:Mod K mg (iO s₁.heap H):=⟨hKb,nsK hns,⟨mb,nsK hb,hbb⟩,let ⟨mc,h1,h2⟩:=hlim;⟨mc,nsK h1,h2⟩⟩
  have e0:kK P w K mg (iO s₁.heap H) callerA [] s₁ H:=⟨rfl,hM,fun b o e=>Ep e,Nat.le_of_eq (En _ _),trivial,fun b hb=>absurd (show b∈([]:List Addr) from hb) (by simp),hok,.of_eq hg⟩
  refine mX ((F _ hKb (nsK hns)).run callerA [] s₁ H ⟨[.ref a],[]⟩ [.ref a] [.ref a] _ _ hr e0 (hbind s₁ (.ref a)) (.cons rfl .nil) (hsp H hO hS)) fun r s' h=>?_;cases r with
  |error e=>exact(hCX H e s' h).elim
  |ok fl=>
   cases fl with
   |next=>exact False.elim h
   |brk=>exact False.elim h
   |cont=>exact False.elim h
   |ret u=>
    obtain⟨v,H',os,bare,un,hok',r',q⟩:=h;have q':v=.bl true:=q;subst q';obtain rfl:u=Value.bool true:=r';refine⟨rfl,OldK.of_keep fun b o e=>?_,os,bare⟩;cases q:H b with
    |none=>exact un.keep b o e q (by intro z;exact absurd (show b∈([]:List Addr) from z) (by simp)) (by simp)
    |some u=>
     rcases hO b with z|⟨ob,xs,z⟩
     ·rw[q]at z;cases z
     ·have z2:=un.frzs b ob _ z;obtain⟨e1,_⟩:=hok b _ z;obtain⟨e2,_⟩:=hok' b _ z2;rw[e]at e1;cases e1;exact e2
 cases hk:K.lookup a with
 |some o=>
  -- the script is one of the module's own objects
  have e:=KX a o hk;rw[ha]at e;cases e;refine core (fun _=>none) (fun _=>.inl rfl) (.inr ⟨_,vs.toArray,_,hk,rfl,rfl,rfl,by rw[aQ,lenV];exact hl,by simpa using rv⟩) (fun b u z=>by have z':(none:Option HO)=some u:=z;cases z') (fun b z=>absurd rfl z) fun z=>absurd rfl z
 |none=>
  refine core (fun b=>if b=a then some (.frz { cls:=.type "list",data:=.seq vs.toArray } (.lst (ns.map V.int))) else none) (fun b=>?_) (.inl (.inr ⟨{ cls:=.type "list",data:=.seq vs.toArray },ag rfl⟩)) (fun b u z=>?_) (fun b z=>?_) fun _=>hk
  ·by_cases hb:b=a
   ·exact .inr ⟨_,_,ag hb⟩
   ·exact .inl (av hb)
  ·by_cases hb:b=a
   ·have z':=(ag hb).symm.trans z;cases z';subst hb;exact⟨ha,by rw[aw];exact hl,vs,_,rv,ha⟩
   ·have z':=(av hb).symm.trans z;cases z'
  ·by_cases hb:b=a
   ·exact hb
   ·exact absurd (av hb) z
end L2
namespace L2
open PySem PySem.Spec PyProof.Rows
noncomputable abbrev zf{K:PySem.W.Frag}{h:Heap}(_:K.In h):PySem.W.Frag:=K
theorem Fz{l:PySem.W.OpenLaw}{n k:Nat}{q:Program}{loose:List Str}{XP:(Str->Option Value)->Heap->Prop}{YP:World->Heap->Prop}{d:DefRec}{K:Params->PySem.W.Frag}{CX:World->fA}{sp:World->Sp}{x:Str}
  (hn:l.most=some n) (hn2:n<=sizeLine) (hdf:d.params.defaults=[]) (hr:bj k callerA)
  (hY:∀(w:World)(h:Heap),YP w h->(K w.params).In h)
  (F:∀(w:World)(mg:Str->Option Value)(fa:Addr)(h:Heap),(K w.params).In h->h.Ns mainGlobals mg->mg d.name=some (.ref fa) ->
   ∃fd:FuncData,(∀(s:Shared)(u:Value),BindsTo s fd ⟨[u],[]⟩ [(x,u)]) /\
    ∀base:Heap,(K w.params).In base->base.Ns mainGlobals mg->bZ l.prog w (K w.params) mg base (CX w) k fa fd [x] (sp w))
  (hsp:∀(w:World)(H:Hp)(a:Addr)(ns:List Int),ns.length<=n->tX H->br (K w.params) H a (ns.map V.int)->sp w [.ref a] H (fun v _=>v=.bl true) fun _ _ _=>False)
  (hCX:∀(w:World)(H:Hp)(s:Shared)(e:Value)(s':Shared),CX w [] H s (fun _ _ _=>False) e s'->False) :
  PySem.W.WalkO q loose XP YP l.row.toRowW d [] (fun f vs=>PySem.call f vs):=by
 refine Att.attach_call hn hdf fun w s₀ s₁ mg mb fa o pm cd doc a vs ns G Y ho hd hcd hmg hobj hints hlen hg=>?_;have KX:=hY w _ Y;obtain⟨fd,hb,hF⟩:=F w mg fa _ KX G.T.g hmg;exact ze KX G.T.g G.T.b G.T.builtins G.T.nolimit hg hobj hints (eP hlen hn2) hr hF hb (fun H hO hS=>hsp w H a ns hlen hO hS) fun H e s'=>hCX w H s₁ e s'
end L2
namespace L2
open PySem PySem.Spec PyProof.Rows
noncomputable abbrev E0:XK:=fun _ _ _=>False
structure kM(K:PySem.W.Frag)(x qual:Str)(st:Stmt)(f:Addr)(fd:FuncData):Prop where
 ex:∃(oc:Value)(od:Option Addr)(kV doc pm:Value)(an:Option Addr)(cdv ct:Value)(osl:Array (Option Value)),
  fd=PySem.W.fnOf x qual (kr st) (fR st) (cL st) .none kV doc pm an cdv ct/\K.lookup f=some ⟨oc,od,.func fd,osl⟩/\PySem.W.codeIn K cdv qual=true
 kp:PySem.W.keepIn K (.ref f)=true
section
variable{P:Program}{w:World}{K:PySem.W.Frag}{mg:Str->Option Value}{base:Heap}
theorem kM.binds{x qual:Str}{st:Stmt}{f:Addr}{fd:FuncData}{ps:List Str}(F:kM K x qual st f fd)
  (h:∀(kV doc pm:Value)(an:Option Addr)(cdv ct:Value)(us:List Value),us.length=ps.length->bindArgs (PySem.W.fnOf x qual (kr st) (fR st) (cL st) .none kV doc pm an cdv ct) ⟨us,[]⟩=pure (ps.zip us)):Binds K fd ps []:=by
 obtain⟨oc,od,kV,doc,pm,an,cdv,ct,osl,rfl,lk,hcd⟩:=F.ex;exact .all (h kV doc pm an cdv ct)
end
section
variable{X:Cx}
end
end L2
namespace L2
open PySem PySem.Spec PyProof.Rows
section
variable{κ:Type} [DecidableEq κ]
noncomputable def eF(kvs:List (κ×V))(k:κ):Option V:=(kvs.find? fun kv=>decide (kv.1=k)).map (·.2)
noncomputable def db(kvs:List (κ×V))(k:κ)(v:V):List (κ×V):=
 if (kvs.any fun kv=>decide (kv.1=k))=true then kvs.map (fun kv=>if kv.1=k then (kv.1,v) else kv) else kvs++[(k,v)]
noncomputable def jD(kvs:List (κ×V))(k:κ):List (κ×V):=kvs.filter fun kv=>decide (kv.1≠k)
theorem qu{p:κ×V}{r:List (κ×V)}{k:κ}(e:p.1=k):eF (p::r) k=some p.2:=by simp[eF,List.find?_cons,e]
theorem qv{p:κ×V}{r:List (κ×V)}{k:κ}(e:¬p.1=k):eF (p::r) k=eF r k:=by simp[eF,List.find?_cons,e]
theorem zg(k:κ):∀kvs:List (κ×V),(kvs.any fun kv=>decide (kv.1=k))=(eF kvs k).isSome
 |[]=>rfl
 |p::r=>by
  rw[List.any_cons];by_cases e:p.1=k
  ·simp only[qu e,gP e,wR,Option.isSome_some]
  ·rw[qv e,eN e,wS];exact zg k r
theorem tY(kvs:List (κ×V))(k:κ)(v:V):(db kvs k v).length<=kvs.length+1:=by
 unfold db;split
 ·rw[aw];omega
 ·rw[en,List.length_cons,List.length_nil];omega
theorem cZ.isSome_eq{o:Option V}{u:Option Value}(r:cZ o u):o.isSome=u.isSome:=by
 cases o with
 |none=>cases u with
  |none=>rfl
  |some _=>exact(show False from r).elim
 |some _=>cases u with
  |none=>exact(show False from r).elim
  |some _=>rfl
theorem cZ.getD{o:Option V}{u:Option Value}{d:V}{d':Value}(r:cZ o u)(rd:RelV d d'):RelV (o.getD d) (u.getD d'):=by
 cases o with
 |none=>cases u with
  |none=>exact rd
  |some _=>exact(show False from r).elim
 |some _=>cases u with
  |none=>exact(show False from r).elim
  |some _=>exact r
theorem KV.val{kvs:List (κ×V)}{vs:List (κ×Value)}(r:KV kvs vs)(k:κ):cZ (eF kvs k) (valueAt vs k):=by
 unfold KV at r
 induction r with
 |nil=>exact True.intro
 |@cons p q ps qs h t ih=>
  obtain⟨h1,h2⟩:=h;by_cases e:p.1=k
  ·have e':q.1=k:=h1.symm.trans e;have b:valueAt (q::qs) k=some q.2:=by simp[valueAt,List.find?_cons,e']
   rw[qu e,b];exact h2
  ·have e':¬q.1=k:=fun z=>e (h1.trans z);have b:valueAt (q::qs) k=valueAt qs k:=by simp[valueAt,List.find?_cons,e']
   rw[qv e,b];exact ih
theorem KV.any{kvs:List (κ×V)}{vs:List (κ×Value)}(r:KV kvs vs)(k:κ):(kvs.any fun kv=>decide (kv.1=k))=vs.any fun kv=>decide (kv.1=k):=by
 unfold KV at r
 induction r with
 |nil=>rfl
 |cons h t ih=>rw[List.any_cons,List.any_cons,ih,h.1]
theorem KV.repl{kvs:List (κ×V)}{vs:List (κ×Value)}(r:KV kvs vs)(k:κ){y:V}{u:Value}(ry:RelV y u) :
  KV (kvs.map fun kv=>if kv.1=k then (kv.1,y) else kv) (vs.map fun kv=>if kv.1=k then (kv.1,u) else kv):=by
 unfold KV at r ⊢
 induction r with
 |nil=>exact .nil
 |@cons p q ps qs h t ih=>
  rw[aZ,aZ];refine .cons ?_ ih;obtain⟨h1,h2⟩:=h;by_cases e:p.1=k
  ·rw[ag e,ag (h1.symm.trans e)];exact⟨h1,ry⟩
  ·rw[av e,av (fun z=>e (h1.trans z))];exact⟨h1,h2⟩
theorem KV.put{kvs:List (κ×V)}{vs:List (κ×Value)}(r:KV kvs vs)(k:κ){y:V}{u:Value}(ry:RelV y u):KV (db kvs k y) (stored vs k u):=by
 unfold db stored;rw[r.any k];by_cases e:(vs.any fun kv=>decide (kv.1=k))=true
 ·rw[ag e,ag e];exact r.repl k ry
 ·rw[av e,av e];exact Paired.snoc r ⟨rfl,ry⟩
theorem KV.drop{kvs:List (κ×V)}{vs:List (κ×Value)}(r:KV kvs vs)(k:κ):KV (jD kvs k) (without vs k):=by
 unfold KV at r ⊢;unfold jD without
 induction r with
 |nil=>exact .nil
 |@cons p q ps qs h t ih=>
  obtain⟨h1,h2⟩:=h;rw[rS,rS];by_cases e:p.1=k
  ·have a:¬decide (p.1≠k)=true:=by simp[e]
   have b:¬decide (q.1≠k)=true:=by simp[h1.symm.trans e]
   rw[av a,av b];exact ih
  ·have e':¬q.1=k:=fun z=>e (h1.trans z);have a:decide (p.1≠k)=true:=by simp[e]
   have b:decide (q.1≠k)=true:=by simp[e']
   rw[ag a,ag b];exact .cons ⟨h1,h2⟩ ih
theorem KV.length{kvs:List (κ×V)}{vs:List (κ×Value)}(r:KV kvs vs):kvs.length=vs.length:=wH r
theorem zh(kvs:List (κ×V))(k:κ):(jD kvs k).length<=kvs.length:=List.length_filter_le _ _
end
theorem hU{P:Program}{w:World}{k:ao}{u:Value}(r:RelV (kV k) u):(cz P w).is k u=true:=by
 cases k with
 |inl i=>obtain⟨t,e⟩:=(show ∃t,u=Value.int i t from r);subst e;exact El P w i t
 |inr x=>obtain⟨t,e⟩:=(show ∃t,u=Value.str x t from r);subst e;exact Em P w x t
theorem zi{P:Program}{w:World}:∀{ks:List ao}{us:List Value},az (ks.map kV) us->ItemsAre (cz P w) ks us
 |[],_,r=>by rw[ez]at r;cases r;exact .nil
 |k::ks,_,r=>by
  rw[aZ]at r;cases r with
  |cons h t=>exact .cons (hU h) (zi t)
noncomputable abbrev KT(H:Hp):List (List ao×V)->List (List ao×Addr×Value)->Prop:=Paired fun p q=>p.1=q.1/\H q.2.1=some (.tup (p.1.map kV))/\RelV p.2 q.2.2
theorem KT.val{H:Hp}{kvs:List (List ao×V)}{xs:List (List ao×Addr×Value)}(r:KT H kvs xs)(k:List ao):cZ (eF kvs k) ((atKey xs k).map (·.2)):=by
 induction r with
 |nil=>exact True.intro
 |@cons p q ps qs h t ih=>
  obtain⟨h1,_,h2⟩:=h;by_cases e:p.1=k
  ·have e':q.1=k:=h1.symm.trans e;have b:atKey (q::qs) k=some q.2:=by simp[atKey,List.find?_cons,e']
   rw[qu e,b];exact h2
  ·have e':¬q.1=k:=fun z=>e (h1.trans z);have b:atKey (q::qs) k=atKey qs k:=by simp[atKey,List.find?_cons,e']
   rw[qv e,b];exact ih
theorem KT.repl{H:Hp}{kvs:List (List ao×V)}{xs:List (List ao×Addr×Value)}(r:KT H kvs xs)(k:List ao){y:V}{u:Value}(ry:RelV y u) :
  KT H (kvs.map fun kv=>if kv.1=k then (kv.1,y) else kv) (xs.map (putAt k u)):=by
 induction r with
 |nil=>exact .nil
 |@cons p q ps qs h t ih=>
  rw[aZ,aZ];refine .cons ?_ ih;obtain⟨h1,h2,h3⟩:=h;unfold putAt;by_cases e:p.1=k
  ·rw[ag e,ag (h1.symm.trans e)];exact⟨h1,h2,ry⟩
  ·rw[av e,av (fun z=>e (h1.trans z))];exact⟨h1,h2,h3⟩
theorem KT.put{H:Hp}{kvs:List (List ao×V)}{xs:List (List ao×Addr×Value)}(r:KT H kvs xs)(k:List ao){b:Addr}{y:V}{u:Value}(hb:H b=some (.tup (k.map kV)))(ry:RelV y u) :
  KT H (db kvs k y) (storedH xs k b u):=by
 have e:(kvs.any fun kv=>decide (kv.1=k))=(atKey xs k).isSome:=by
  rw[zg,(r.val k).isSome_eq,wT]
 unfold db storedH;rw[e];by_cases q:(atKey xs k).isSome=true
 ·rw[ag q,ag q];exact r.repl k ry
 ·rw[av q,av q];exact Paired.snoc r ⟨rfl,hb,ry⟩
theorem KT.keeps{H H':Hp}{kvs:List (List ao×V)}{xs:List (List ao×Addr×Value)}(r:KT H kvs xs)(ht:∀b ys,H b=some (.tup ys)->H' b=some (.tup ys)):KT H' kvs xs:=
 Paired.mapP r fun _ _ z=>⟨z.1,ht _ _ z.2.1,z.2.2⟩
section
variable{P:Program}{w:World}{H:Hp}{h:Heap}{a:Addr}
theorem zj{u:HO}(ok:bC P w H h)(e:Rd H a u):cN P w H h a u:=e.ok ok
theorem jE{kvs:List (ao×V)}(ok:bC P w H h)(e:Rd H a (.dK kvs)):kvs.length<=sizeLine/\(a==sysModules)=false/\∃vs,KV kvs vs/\h.DictOf (cz P w) a vs:=
 show cN P w H h a (.dK kvs) from zj ok e
theorem kN{kvs:List (ao×V)}(ok:bC P w H h)(e:H a=some (.dK kvs)):kvs.length<=sizeLine/\(a==sysModules)=false/\∃vs,KV kvs vs/\h.DictOf (cz P w) a vs:=jE ok (.inl e)
theorem lX{ks:List ao}(ok:bC P w H h)(e:H a=some (.tup (ks.map kV))):(tupleKind (cz P w)).is h ks a:=by
 obtain⟨_,its,r,o,h1,h2,n,h3⟩:=(show cN P w H h a (.tup (ks.map kV)) from ok a _ e)
 exact⟨o,its.toArray,n,h1,h2,h3,by simpa using zi r⟩
theorem kO{kvs:List (List ao×V)}(ok:bC P w H h)(e:Rd H a (.dT kvs)):kvs.length<=sizeLine/\(a==sysModules)=false /\
  ∃xs,KT H kvs xs/\h.DictOfH (tupleKind (cz P w)) a xs:=by
 obtain⟨z,y,xs,r,o,es,ep,h1,h2,h3,h4,h5⟩:=(show cN P w H h a (.dT kvs) from zj ok e)
 refine⟨z,y,xs,r,o,es,ep,h1,h2,h3,h4,fun x hx=>?_,h5⟩;have all:∀{l:List (List ao×V)}{m:List (List ao×Addr×Value)},KT H l m->∀x∈m,(tupleKind (cz P w)).is h x.1 x.2.1:=by
  intro l m q
  induction q with
  |nil=>intro x hx;exact nomatch hx
  |@cons p q ps qs hq t ih=>
   intro x hx;rcases aP.mp hx with e|hx
   ·subst e;exact lX ok (by rw[←hq.1];exact hq.2.1)
   ·exact ih x hx
 exact all r x hx
theorem FA{kvs:List (List ao×V)}(ok:bC P w H h)(e:H a=some (.dT kvs)):kvs.length<=sizeLine/\(a==sysModules)=false /\
  ∃xs,KT H kvs xs/\h.DictOfH (tupleKind (cz P w)) a xs:=kO ok (.inl e)
end
noncomputable def eX(H:Hp)(a:Addr)(y:V)(r:Option V):Prop:=
 (∃kvs k,Rd H a (.dK kvs)/\y=kV k/\r=eF kvs k)\/∃kvs k b,Rd H a (.dT kvs)/\y=.ref b/\H b=some (.tup (k.map kV))/\r=eF kvs k
noncomputable def nD(H:Hp)(a:Addr)(y v:V)(H':Hp):Prop:=
 (∃kvs k,H a=some (.dK kvs)/\y=kV k/\kvs.length<sizeLine/\H'=ay H a (.dK (db kvs k v))) \/
 ∃kvs k b,H a=some (.dT kvs)/\y=.ref b/\H b=some (.tup (k.map kV))/\kvs.length<sizeLine/\H'=ay H a (.dT (db kvs k v))
theorem eX.k{H:Hp}{a:Addr}{kvs:List (ao×V)}{k:ao}(e:H a=some (.dK kvs)):eX H a (kV k) (eF kvs k):=.inl ⟨kvs,k,.inl e,rfl,rfl⟩
theorem nD.k{H:Hp}{a:Addr}{kvs:List (ao×V)}{k:ao}{v:V}(e:H a=some (.dK kvs))(hl:kvs.length<sizeLine):nD H a (kV k) v (ay H a (.dK (db kvs k v))):=.inl ⟨kvs,k,e,rfl,hl,rfl⟩
section
variable{X:Cx}{pins:List (Addr×Obj)}{σ:St}{H:Hp}{s:Shared}{a:Addr}{y v:V}{u r:Value}{o:Option V}{A:Around}{E:Value->Shared->Prop}
theorem Inv.big(I:Inv X pins σ H s):sysModules<s.heap.objs.size:=by
 have h:mainGlobals<s.heap.objs.size:=(I.mod.glob.keeps I.bk).lt;exact m8 (by decide) h
theorem zk{Q:Value->Shared->Prop}(hu:A.units+1<cLine)(I:Inv X pins σ H s)(g:eX H a y (some v))(ry:RelV y u)(h:∀w' s',Inv X pins σ H s'->RelV v w'->Q w' s') :
  wpAny (model X.prog X.w) A (getItem (.ref a) u) Q E s:=by
 rcases g with ⟨kvs,k,e,ey,l⟩|⟨kvs,k,b,e,ey,eb,l⟩
 ·subst ey;obtain⟨z,hd,vs,rel,dd⟩:=jE I.hok e;obtain⟨w',hw,rw'⟩:=cZ.some_of (v:=v) (o:=valueAt vs k) (by rw[l];exact rel.val k);exact wpAny_getItem_of (hU ry) dd.mapOf hw (h w' _ (I.tok _) rw')
 ·subst ey;cases (show u=Value.ref b from ry);obtain⟨z,hd,xs,rel,dd⟩:=kO I.hok e;obtain⟨w',hw,rw'⟩:=cZ.some_of (v:=v) (o:=(atKey xs k).map (·.2)) (by rw[l];exact rel.val k);obtain⟨p,hp,hp2⟩:=C6.mp hw;refine wpAny_getItem_heap (rT hu) (lX I.hok eb) dd hp ?_;rw[hp2];exact h w' _ (I.tok _) rw'
theorem FB{Q:Value->Shared->Prop}(hu:A.units+1<cLine)(I:Inv X pins σ H s)(g:eX H a y o)(ry:RelV y u)(h:∀s',Inv X pins σ H s'->Q (.bool o.isSome) s') :
  wpAny (model X.prog X.w) A (compareOp .In u (.ref a)) Q E s:=by
 rcases g with ⟨kvs,k,e,ey,l⟩|⟨kvs,k,b,e,ey,eb,l⟩
 ·subst ey;obtain⟨z,hd,vs,rel,dd⟩:=jE I.hok e;refine wpAny_in_of (hU ry) hd dd.mapOf ?_;rw[←(rel.val k).isSome_eq,←l];exact h _ (I.tok _)
 ·subst ey;cases (show u=Value.ref b from ry);obtain⟨z,hd,xs,rel,dd⟩:=kO I.hok e;refine wpAny_in_heap (rT hu) (lX I.hok eb) hd dd ?_;have q:=(rel.val k).isSome_eq;rw[wT]at q;rw[←q,←l];exact h _ (I.tok _)
theorem FC{Q:Value->Shared->Prop}(hu:A.units+1<cLine)(I:Inv X pins σ H s)(g:eX H a y o)(ry:RelV y u)(h:∀s',Inv X pins σ H s'->Q (.bool (!o.isSome)) s') :
  wpAny (model X.prog X.w) A (compareOp .NotIn u (.ref a)) Q E s:=by
 rcases g with ⟨kvs,k,e,ey,l⟩|⟨kvs,k,b,e,ey,eb,l⟩
 ·subst ey;obtain⟨z,hd,vs,rel,dd⟩:=jE I.hok e;refine wpAny_notIn_of (hU ry) hd dd.mapOf ?_;rw[←(rel.val k).isSome_eq,←l];exact h _ (I.tok _)
 ·subst ey;cases (show u=Value.ref b from ry);obtain⟨z,hd,xs,rel,dd⟩:=kO I.hok e;refine wpAny_notIn_heap (rT hu) (lX I.hok eb) hd dd ?_;have q:=(rel.val k).isSome_eq;rw[wT]at q;rw[←q,←l];exact h _ (I.tok _)
theorem nE{h':Heap}{t':Nat}{ob:HO}(I:Inv X pins σ H s)(mu:nz (H a))(hs:Heap.SameBut a s.heap h')(he:∃q,h'.get? a=some q)(new:cN X.prog X.w (ay H a ob) h' a ob) :
  Inv X pins σ (ay H a ob) { s with heap:=h',toks:=t' }:=
 I.write (x:=a) (e:=a) mu (.inl rfl) (fun b q hb z=>(hs.2 b hb).trans z) he new
theorem qw{P:Program}{w:World}{H':Hp}{h':Heap}{kvs:List (ao×V)}{vs:List (ao×Value)}(z:kvs.length<=sizeLine)(hd:(a==sysModules)=false)(rel:KV kvs vs)(dd:h'.DictOf (cz P w) a vs) :
  cN P w H' h' a (.dK kvs):=⟨z,hd,vs,rel,dd⟩
theorem zl{H':Hp}{Q:Unit->Shared->Prop}(hu:A.units+1<cLine)(I:Inv X pins σ H s)(g:nD H a y v H')(ry:RelV y u)(rv:RelV v r)(h:∀s',Inv X pins σ H' s'->Q () s') :
  wpAny (model X.prog X.w) A (setItem (.ref a) u r) Q E s:=by
 rcases g with ⟨kvs,k,e,ey,l,eH⟩|⟨kvs,k,b,e,ey,eb,l,eH⟩
 ·subst ey eH;obtain⟨z,hd,vs,rel,dd⟩:=kN I.hok e;have hz:vs.length<=sizeLine:=by rw[←rel.length];exact z
  have hl:(db kvs k v).length<=sizeLine:=by have:=tY kvs k v;omega
  refine wpAny_setItem_pairs (hsz:=hz) (hU ry) dd fun h' dd' hs=>h _ ?_;have he:∃q,h'.get? a=some q:=let ⟨q,_,_,hq,_⟩:=dd';⟨q,hq⟩
  exact nE I (by rw[e];exact True.intro) hs he (qw hl hd (rel.put k rv) dd')
 ·subst ey eH;cases (show u=Value.ref b from ry);obtain⟨z,hd,xs,rel,dd⟩:=FA I.hok e;have hz:xs.length<=sizeLine:=by rw[←wH rel];exact z
  have hl:(db kvs k v).length<=sizeLine:=by have:=tY kvs k v;omega
  refine wpAny_setItem_heap (hsz:=hz) (rT hu) (lX I.hok eb) dd fun h' dd' hs=>h _ ?_;obtain⟨q,es,ep,hq,h2,h3,h4,_,h5⟩:=dd';refine nE I (by rw[e];exact True.intro) hs ⟨q,hq⟩ ⟨hl,hd,_,(rel.put k eb rv).keeps fun c ys ec=>?_,q,es,ep,hq,h2,h3,h4,h5⟩;rw[aR (tN ec e (fun z=>nomatch z))];exact ec
end
section
variable{X:Cx}{pins:List (Addr×Obj)}{σ:St}{H:Hp}{s:Shared}{a:Addr}{kvs:List (ao×V)}{k:ao}{u:Value}{A:Around}{E:Value->Shared->Prop}
theorem Ox{Q:Unit->Shared->Prop}(I:Inv X pins σ H s)(e:H a=some (.dK kvs))(ry:RelV (kV k) u)(l:(eF kvs k).isSome=true)(h:∀s',Inv X pins σ (ay H a (.dK (jD kvs k))) s'->Q () s') :
  wpAny (model X.prog X.w) A (delItem (.ref a) u) Q E s:=by
 obtain⟨z,hd,vs,rel,dd⟩:=kN I.hok e;refine wpAny_delItem_slot dd.typeIs (by decide) Oh
  (rV Oh dd.typeIs PySem.F.entry_dict_delitem (PySem.F.args_dict_delitem_2 _ _) (meets_dict_delitem_pairs (cz X.prog X.w) a (hU ry)) ⟨vs,dd,by rw[←rel.length];exact z,by rw[←(rel.val k).isSome_eq];exact l,fun h' dd' hs=>h _ ?_⟩)
 have he:∃q,h'.get? a=some q:=let ⟨q,_,_,hq,_⟩:=dd';⟨q,hq⟩
 exact nE I (by rw[e];exact True.intro) hs he (qw (eP (zh kvs k) z) hd (rel.drop k) dd')
theorem FD{v:V}{more:List Value}{Q:Value->Shared->Prop}(I:Inv X pins σ H s)(e:H a=some (.dK kvs))(ry:RelV (kV k) u)(l:eF kvs k=some v)(hm:more=[]\/∃x,more=[x])
  (h:∀w' s',Inv X pins σ (ay H a (.dK (jD kvs k))) s'->RelV v w'->Q w' s'):wpAny (model X.prog X.w) A (call (.builtin "dict.pop") (.ref a::u::more)) Q E s:=by
 obtain⟨z,hd,vs,rel,dd⟩:=kN I.hok e;obtain⟨w',hw,rw'⟩:=cZ.some_of (v:=v) (o:=valueAt vs k) (by rw[←l];exact rel.val k);have hp:(keyPart u).isSome=true:=by
  cases k with
  |inl i=>obtain⟨t,q⟩:=(show ∃t,u=Value.int i t from ry);subst q;rfl
  |inr x=>obtain⟨t,q⟩:=(show ∃t,u=Value.str x t from ry);subst q;rfl
 have ha:argsOk "dict.pop" ⟨.ref a::u::more,[]⟩:=by
  rcases hm with q|⟨x,q⟩
  ·subst q;exact PySem.F.args_dict_pop_2 _ _
  ·subst q;exact PySem.F.args_dict_pop_3 _ _ _
 refine rV C7 dd.typeIs PySem.F.entry_dict_pop ha (meets_dict_pop_there (cz X.prog X.w) a (hU ry) more hm hp)
  ⟨vs,w',dd,by rw[←rel.length];exact z,hw,fun h' dd' hs=>h w' _ ?_ rw'⟩
 have he:∃q,h'.get? a=some q:=let ⟨q,_,_,hq,_⟩:=dd';⟨q,hq⟩
 exact nE I (by rw[e];exact True.intro) hs he (qw (eP (zh kvs k) z) hd (rel.drop k) dd')
theorem FE{r:Value}{Q:Value->Shared->Prop}(I:Inv X pins σ H s)(e:H a=some (.dK kvs))(ry:RelV (kV k) u)(l:eF kvs k=none)(h:∀s',Inv X pins σ H s'->Q r s') :
  wpAny (model X.prog X.w) A (call (.builtin "dict.pop") [.ref a,u,r]) Q E s:=by
 obtain⟨z,hd,vs,rel,dd⟩:=kN I.hok e;have hn:valueAt vs k=none:=cZ.none_of (by rw[←l];exact rel.val k);have hp:(keyPart u).isSome=true:=by
  cases k with
  |inl i=>obtain⟨t,q⟩:=(show ∃t,u=Value.int i t from ry);subst q;rfl
  |inr x=>obtain⟨t,q⟩:=(show ∃t,u=Value.str x t from ry);subst q;rfl
 exact rV C7 dd.typeIs PySem.F.entry_dict_pop (PySem.F.args_dict_pop_3 _ _ _) (meets_dict_pop_default (cz X.prog X.w) a (hU ry) hd hp r) ⟨vs,dd,hn,h _ (I.tok _)⟩
theorem FF{Q:Value->Shared->Prop}(I:Inv X pins σ H s)(e:Rd H a (.dK kvs))(h:∀t s',Inv X pins σ H s'->Q (.int kvs.length t) s'):wpAny (model X.prog X.w) A (call (.builtin "len") [.ref a]) Q E s:=by
 obtain⟨z,hd,vs,rel,dd⟩:=jE I.hok e;refine call_len_dict hd dd (by rw[←rel.length];rw[cy]at z;omega) ?_;rw[←rel.length];exact h _ _ (I.tok _)
end
theorem FG{X:Cx}{pins:List (Addr×Obj)}{σ:St}{H:Hp}{s:Shared}{a:Addr}{y:V}{o:Option V}(I:Inv X pins σ H s)(g:eX H a y o):s.TypeIs (.ref a) "dict":=by
 rcases g with ⟨kvs,k,e,_,_⟩|⟨kvs,k,b,e,_,_,_⟩
 ·obtain⟨_,_,vs,_,dd⟩:=jE I.hok e;exact dd.typeIs
 ·obtain⟨_,_,xs,_,dd⟩:=kO I.hok e;exact dd.typeIs
section
variable{X:Cx}{o i e value:Expr}{pos pos' tpos:Pos}{td ty tv:TE}
end
theorem zm{P:Program}{w:World}{H:Hp}(h:Heap)(hb:sysModules<h.objs.size):cN P w H (h.push { cls:=.type "dict",data:=.dict #[] }) h.objs.size (.dK []):=
 ⟨jl _,ef.mpr (a7 (bU hb)),[],.nil,Heap.DictOf.new h⟩
noncomputable def FH:TE:=fun _ H Q=>∀p,H p=none->Q (.ref p) (ay H p (.dK []))
section
variable{X:Cx}{pos:Pos}
theorem FI:PE X (.Dict [] [] pos) FH:=fun pins s σ H Q I h=>
 wpAny_Dict_empty ⟨.ref s.heap.objs.size,_,I.laid (a:=s.heap.objs.size) (o:=.dK []) (t':=s.toks) (fun _ _ q=>bb _ q) (aF _) (zm s.heap I.big),rfl,h _ (I.hok.fresh (aF _))⟩
end
noncomputable abbrev VV:List (V×V)->List (Value×Value)->Prop:=Paired fun p q=>RelV p.1 q.1/\RelV p.2 q.2
noncomputable def lY(kvs more:List (ao×V)):List (ao×V):=more.foldl (fun acc kv=>db acc kv.1 kv.2) kvs
theorem KV.merge:∀{more:List (ao×V)}{rs:List (ao×Value)}{kvs:List (ao×V)}{vs:List (ao×Value)},KV more rs->KV kvs vs->KV (lY kvs more) (merged vs rs):=by
 intro more rs kvs vs r;unfold KV at r
 induction r generalizing kvs vs with
 |nil=>intro q;exact q
 |@cons p q ps qs h t ih=>
  intro r0;have e:KV (db kvs p.1 p.2) (stored vs q.1 q.2):=by
   have:=r0.put p.1 h.2;rw[←h.1];exact this
  exact ih e
theorem zn:∀(more kvs:List (ao×V)),(lY kvs more).length<=kvs.length+more.length
 |[],kvs=>by show kvs.length<=kvs.length+0;omega
 |p::r,kvs=>by
  have h1:=zn r (db kvs p.1 p.2);have h2:=tY kvs p.1 p.2;show(lY (db kvs p.1 p.2) r).length<=_;rw[List.length_cons];omega
theorem zo{P:Program}{w:World}:∀{kvs:List (ao×V)}{ws:List (Value×Value)},VV (kvs.map fun kv=>(kV kv.1,kv.2)) ws->∃rs,Carries (cz P w) ws rs/\KV kvs rs
 |[],_,r=>by rw[ez]at r;cases r;exact⟨[],True.intro,.nil⟩
 |p::kvs,_,r=>by
  rw[aZ]at r;cases r with
  |@cons a b as bs h t=>
   obtain⟨rs,c,q⟩:=zo (P:=P) (w:=w) t;obtain⟨b1,b2⟩:=b;exact⟨(p.1,b2)::rs,⟨hU h.1,rfl,c⟩,.cons ⟨rfl,h.2⟩ q⟩
structure M1(X:Cx)(o:Expr)(m:Str)(apos:Pos)(e:Expr)(cpos:Pos):Prop where
 base:attributeBase o m X.env (eval o X.env)=eval o X.env
 few:((backTo cpos (starEach [e] X.env)).all (fun x=>!x.1)&&(backToKw cpos (keywordEach [] X.env)).all (fun x=>x.1.isSome)
  && decide (([e]:List Expr).length+([]:List Keyword).length+(if ([]:List Keyword).isEmpty then 0 else 1)<30))=true
 line:(apos.endLine==cpos.line)=true
 trees:backTo cpos (starEach [e] X.env)=[(false,eval e X.env)]
structure M2(X:Cx)(o:Expr)(m:Str)(apos:Pos)(e f:Expr)(cpos:Pos):Prop where
 base:attributeBase o m X.env (eval o X.env)=eval o X.env
 few:((backTo cpos (starEach [e,f] X.env)).all (fun x=>!x.1)&&(backToKw cpos (keywordEach [] X.env)).all (fun x=>x.1.isSome)
  && decide (([e,f]:List Expr).length+([]:List Keyword).length+(if ([]:List Keyword).isEmpty then 0 else 1)<30))=true
 line:(apos.endLine==cpos.line)=true
 trees:backTo cpos (starEach [e,f] X.env)=[(false,eval e X.env),(false,eval f X.env)]
noncomputable def FJ(H:Hp)(a:Addr):Prop:=(∃kvs,Rd H a (.dK kvs))\/∃kvs,Rd H a (.dT kvs)
theorem zq{X:Cx}{pins:List (Addr×Obj)}{σ:St}{H:Hp}{s:Shared}{a:Addr}(I:Inv X pins σ H s)(d:FJ H a) :
  s.TypeIs (.ref a) "dict"/\(∀b,Value.ref a=.ref b->∃ob,s.heap.get? b=some ob/\ob.dict=none)/\(a==sysModules)=false:=by
 rcases d with ⟨kvs,e⟩|⟨kvs,e⟩
 ·obtain⟨_,hd,vs,_,dd⟩:=jE I.hok e;refine⟨dd.typeIs,fun b q=>?_,hd⟩;cases q;obtain⟨ob,_,_,h1,h2,_⟩:=dd;exact⟨ob,h1,h2.2.1⟩
 ·obtain⟨_,hd,xs,_,dd⟩:=kO I.hok e;refine⟨dd.typeIs,fun b q=>?_,hd⟩;cases q;obtain⟨ob,_,_,h1,h2,_⟩:=dd;exact⟨ob,h1,h2.2.1⟩
section
variable{X:Cx}{pins:List (Addr×Obj)}{σ:St}{H:Hp}{s:Shared}{a:Addr}{y d:V}{u r:Value}{o:Option V}{A:Around}{E:Value->Shared->Prop}
theorem FK{Q:Value->Shared->Prop}(hu:A.units+1<cLine)(I:Inv X pins σ H s)(g:eX H a y o)(ry:RelV y u)(rd:RelV d r)(h:∀w' s',Inv X pins σ H s'->RelV (o.getD d) w'->Q w' s') :
  wpAny (model X.prog X.w) A (call (.builtin "dict.get") [.ref a,u,r]) Q E s:=by
 rcases g with ⟨kvs,k,e,ey,l⟩|⟨kvs,k,b,e,ey,eb,l⟩
 ·subst ey;obtain⟨z,hd,vs,rel,dd⟩:=jE I.hok e;refine rV C8 dd.typeIs PySem.F.entry_dict_get (PySem.F.args_dict_get_3 _ _ _) (meets_dict_get_default (cz X.prog X.w) a (hU ry) hd r) ⟨_,dd.mapOf,h _ _ (I.tok _) ?_⟩;rw[l];exact(rel.val k).getD rd
 ·subst ey;cases (show u=Value.ref b from ry);obtain⟨z,hd,xs,rel,dd⟩:=kO I.hok e;refine rV C8 dd.typeIs PySem.F.entry_dict_get (PySem.F.args_dict_get_3 _ _ _) (meetsH_dict_get_default (tupleKind (cz X.prog X.w)) a b hd r) ⟨rT hu,k,xs,lX I.hok eb,dd,h _ _ (I.tok _) ?_⟩;rw[l];exact(rel.val k).getD rd
end
section
variable{X:Cx}{o e f:Expr}{apos cpos:Pos}{td ty tx:TE}
end
section
variable{X:Cx}{pins:List (Addr×Obj)}{σ:St}{H:Hp}{s:Shared}{a:Addr}{kvs:List (ao×V)}{A:Around}{E:Value->Shared->Prop}
end
section
variable{X:Cx}{pins:List (Addr×Obj)}{σ:St}{H:Hp}{s:Shared}{a:Addr}{y:V}{u:Value}{A:Around}{E:Value->Shared->Prop}
end
end L2
set_option genInjectivity true
namespace Q
open PySem PySem.Spec PyProof.Rows L2
inductive MO where
 |lst (xs:List PV)|dct (kvs:List (ao×PV))|ins (c:Str) (fs:List (Str×PV))
noncomputable def MO.vals:MO->List PV
 |.lst xs=>xs
 |.dct kvs=>kvs.map (·.2)
 |.ins _ fs=>fs.map (·.2)
noncomputable abbrev aa:=List MO
noncomputable abbrev Ro:=List (Option PV)
inductive ac(α:Type) where
 |ok (a:α) (S:aa)|exn (c:Str) (S:aa)|bad
noncomputable def ac.bind{α β:Type}(r:ac α)(k:α->aa->ac β):ac β:=
 match r with
 |.ok a S=>k a S
 |.exn _ _=>.bad
 |.bad=>.bad
theorem ac.bind_ok{α β:Type}(a:α)(S:aa)(k:α->aa->ac β):(ac.ok a S).bind k=k a S:=rfl
theorem ac.bind_assoc{α β γ:Type}(r:ac α)(k:α->aa->ac β)(l:β->aa->ac γ):(r.bind k).bind l=r.bind fun a S=>(k a S).bind l:=by cases r<;>rfl
noncomputable def ac.andF{α β:Type}(r:ac α)(k:α->aa->ac β):ac β:=
 match r with
 |.ok a S=>k a S
 |.exn c S=>.exn c S
 |.bad=>.bad
theorem ac.andF_ok{α β:Type}(a:α)(S:aa)(k:α->aa->ac β):(ac.ok a S).andF k=k a S:=rfl
noncomputable def eY(K:PySem.W.Frag)(H:Hp)(mu:List Addr)(a:Addr)(vs:List V):Prop:=
 (H a=some (.lst vs)/\a∉mu)\/(∃o,H a=some (.frz o (.lst vs))) \/
  ∃(o:Obj)(its:Array Value)(n:Nat),K.lookup a=some o/\o.cls=.type "list"/\o.dict=none/\o.data=.seq its n/\its.size<=sizeLine/\az vs its.toList
mutual
noncomputable def ak(K:PySem.W.Frag)(H:Hp)(mu:List Addr):PV->V->Prop
 |.non,v=>v=.non
 |.bl b,v=>v=.bl b
 |.int i,v=>v=.int i
 |.str x,v=>v=.str x
 |.tup ps,v=>∃a vs,v=.ref a/\bv K H a vs/\ai K H mu ps vs
 |.lst ps,v=>∃a vs,v=.ref a/\eY K H mu a vs/\ai K H mu ps vs
 |.ref n,v=>∃a,v=.ref a/\mu[n]?=some a
noncomputable def ai(K:PySem.W.Frag)(H:Hp)(mu:List Addr):List PV->List V->Prop
 |[],vs=>vs=[]
 |p::ps,vs=>∃v vs',vs=v::vs'/\ak K H mu p v/\ai K H mu ps vs'
end
section
variable{K:PySem.W.Frag}{H H' H'':Hp}{mu mu' mu'':List Addr}
theorem eY.sq{a:Addr}{vs:List V}(h:eY K H mu a vs):br K H a vs:=by
 rcases h with ⟨h,_⟩|⟨o,h⟩|h
 ·exact .inl (.inl h)
 ·exact .inl (.inr ⟨o,h⟩)
 ·exact .inr h
theorem ai.length:∀{ps:List PV}{vs:List V},ai K H mu ps vs->ps.length=vs.length
 |[],vs,h=>by simp only[ai]at h;subst h;rfl
 |p::ps,vs,h=>by
  simp only[ai]at h;obtain⟨v,vs',rfl,_,h2⟩:=h;simp[ai.length h2]
theorem ai.nil:ai K H mu [] []:=by simp only[ai]
theorem ai.cons{p:PV}{ps:List PV}{v:V}{vs:List V}(h:ak K H mu p v)(t:ai K H mu ps vs):ai K H mu (p::ps) (v::vs):=by
 simp only[ai];exact⟨v,vs,rfl,h,t⟩
theorem ai.uncons{p:PV}{ps:List PV}{vs:List V}(h:ai K H mu (p::ps) vs):∃v vs',vs=v::vs'/\ak K H mu p v/\ai K H mu ps vs':=by
 simpa only[ai]using h
theorem ai.isNil{vs:List V}(h:ai K H mu [] vs):vs=[]:=by simpa only[ai]using h
theorem ai.get:∀{ps:List PV}{vs:List V}{i:Nat}{p:PV},ai K H mu ps vs->ps[i]?=some p->∃v,vs[i]?=some v/\ak K H mu p v
 |[],_,_,_,_,e=>by simp at e
 |q::ps,vs,0,p,h,e=>by
  obtain⟨v,vs',rfl,h1,_⟩:=h.uncons;simp at e;subst e;exact⟨v,rfl,h1⟩
 |q::ps,vs,i+1,p,h,e=>by
  obtain⟨v,vs',rfl,_,h2⟩:=h.uncons;obtain⟨w,h3,h4⟩:=ai.get (i:=i) (p:=p) h2 (by simpa using e);exact⟨w,by simpa using h3,h4⟩
theorem ai.append:∀{ps qs:List PV}{vs ws:List V},ai K H mu ps vs->ai K H mu qs ws->ai K H mu (ps++qs) (vs++ws)
 |[],qs,vs,ws,h,g=>by rw[h.isNil];exact g
 |p::ps,qs,vs,ws,h,g=>by
  obtain⟨v,vs',rfl,h1,h2⟩:=h.uncons;exact ai.cons h1 (ai.append h2 g)
theorem ai.take:∀{ps:List PV}{vs:List V}(n:Nat),ai K H mu ps vs->ai K H mu (ps.take n) (vs.take n)
 |_,_,0,_=>by simp only[List.take_zero];exact ai.nil
 |[],vs,n+1,h=>by rw[h.isNil];simp only[List.take_nil];exact ai.nil
 |p::ps,vs,n+1,h=>by
  obtain⟨v,vs',rfl,h1,h2⟩:=h.uncons;exact ai.cons h1 (ai.take n h2)
theorem ai.drop:∀{ps:List PV}{vs:List V}(n:Nat),ai K H mu ps vs->ai K H mu (ps.drop n) (vs.drop n)
 |_,_,0,h=>by simpa only[iC]using h
 |[],vs,n+1,h=>by rw[h.isNil];simp only[List.drop_nil];exact ai.nil
 |p::ps,vs,n+1,h=>by
  obtain⟨v,vs',rfl,h1,h2⟩:=h.uncons;exact ai.drop n h2
theorem ai.set{p:PV}{v:V}(hp:ak K H mu p v):∀{ps:List PV}{vs:List V}(n:Nat),ai K H mu ps vs->ai K H mu (ps.set n p) (vs.set n v)
 |[],vs,n,h=>by rw[h.isNil];simp only[List.set_nil];exact ai.nil
 |q::ps,vs,0,h=>by
  obtain⟨w,vs',rfl,h1,h2⟩:=h.uncons;exact ai.cons hp h2
 |q::ps,vs,n+1,h=>by
  obtain⟨w,vs',rfl,h1,h2⟩:=h.uncons;exact ai.cons h1 (ai.set hp n h2)
structure Step(H:Hp)(mu:List Addr)(H':Hp)(mu':List Addr):Prop where
 tup:∀a xs,H a=some (.tup xs)->H' a=some (.tup xs)
 frz:∀a o u,H a=some (.frz o u)->H' a=some (.frz o u)
 lst:∀a xs,H a=some (.lst xs)->a∉mu->H' a=some (.lst xs)
 dom:∀a,H' a=none->H a=none
 ext:∃new,mu'=mu++new/\∀a∈new,H a=none
theorem Step.refl(H:Hp)(mu:List Addr):Step H mu H mu:=⟨fun _ _ h=>h,fun _ _ _ h=>h,fun _ _ h _=>h,fun _ h=>h,[],by simp,fun _ h=>nomatch h⟩
theorem Step.out(s:Step H mu H' mu'){a:Addr}{o:HO}(h:H a=some o)(n:a∉mu):a∉mu':=by
 obtain⟨new,rfl,hn⟩:=s.ext;intro hm;rcases gO.mp hm with z|z
 ·exact n z
 ·rw[hn a z]at h;cases h
theorem Step.trans(s:Step H mu H' mu')(t:Step H' mu' H'' mu''):Step H mu H'' mu'' where
 tup:=fun a xs h=>t.tup a xs (s.tup a xs h)
 frz:=fun a o u h=>t.frz a o u (s.frz a o u h)
 lst:=fun a xs h n=>t.lst a xs (s.lst a xs h n) (s.out h n)
 dom:=fun a h=>s.dom a (t.dom a h)
 ext:=by
  obtain⟨n1,rfl,h1⟩:=s.ext;obtain⟨n2,rfl,h2⟩:=t.ext;exact⟨n1++n2,by simp,fun a h=>(gO.mp h).elim (h1 a) fun z=>s.dom a (h2 a z)⟩
theorem Step.get(s:Step H mu H' mu'){i:Nat}{a:Addr}(h:mu[i]?=some a):mu'[i]?=some a:=by
 obtain⟨new,rfl,_⟩:=s.ext;rw[dI (bF.mp h).1];exact h
theorem Step.sqT(s:Step H mu H' mu'){a:Addr}{vs:List V}(h:bv K H a vs):bv K H' a vs:=by
 rcases h with (h|⟨o,h⟩)|h
 ·exact .inl (.inl (s.tup _ _ h))
 ·exact .inl (.inr ⟨o,s.frz _ _ _ h⟩)
 ·exact .inr h
theorem Step.lstV(s:Step H mu H' mu'){a:Addr}{vs:List V}(h:eY K H mu a vs):eY K H' mu' a vs:=by
 rcases h with ⟨h,n⟩|⟨o,h⟩|h
 ·exact .inl ⟨s.lst _ _ h n,s.out h n⟩
 ·exact .inr (.inl ⟨o,s.frz _ _ _ h⟩)
 ·exact .inr (.inr h)
mutual
theorem Step.rep(s:Step H mu H' mu'):∀{p:PV}{v:V},ak K H mu p v->ak K H' mu' p v
 |.non,_,h=>by simpa only[ak]using h
 |.bl _,_,h=>by simpa only[ak]using h
 |.int _,_,h=>by simpa only[ak]using h
 |.str _,_,h=>by simpa only[ak]using h
 |.tup ps,v,h=>by
  simp only[ak]at h ⊢;obtain⟨a,vs,e,q,r⟩:=h;exact⟨a,vs,e,s.sqT q,Step.reps s r⟩
 |.lst ps,v,h=>by
  simp only[ak]at h ⊢;obtain⟨a,vs,e,q,r⟩:=h;exact⟨a,vs,e,s.lstV q,Step.reps s r⟩
 |.ref n,v,h=>by
  simp only[ak]at h ⊢;obtain⟨a,e,q⟩:=h;exact⟨a,e,s.get q⟩
theorem Step.reps(s:Step H mu H' mu'):∀{ps:List PV}{vs:List V},ai K H mu ps vs->ai K H' mu' ps vs
 |[],vs,h=>by simpa only[ai]using h
 |p::ps,vs,h=>by
  simp only[ai]at h ⊢;obtain⟨v,vs',e,h1,h2⟩:=h;exact⟨v,vs',e,Step.rep s h1,Step.reps s h2⟩
end
noncomputable def lZ(K:PySem.W.Frag)(H:Hp)(mu:List Addr)(a:Addr):MO->Prop
 |.lst xs=>∃vs,H a=some (.lst vs)/\ai K H mu xs vs
 |.dct kvs=>∃ws,H a=some (.dK ws)/\ws.map (·.1)=kvs.map (·.1)/\ai K H mu (kvs.map (·.2)) (ws.map (·.2))
 |.ins c fs=>∃C dx ws,H a=some (.ins C dx ws)/\PySem.W.nsIn K mainGlobals c=some (some (.ref C))/\ws.map (·.1)=fs.map (·.1)/\ai K H mu (fs.map (·.2)) (ws.map (·.2))
theorem lZ.gen{a:Addr}{o:MO}(h:lZ K H mu a o):∃ho vs,H a=some ho/\ai K H mu o.vals vs/\(∀xs,ho≠.tup xs)/\(∀b u,ho≠.frz b u) /\
  ∀(H':Hp)(mu':List Addr),H' a=some ho->ai K H' mu' o.vals vs->lZ K H' mu' a o:=by
 cases o with
 |lst xs=>
  obtain⟨vs,h1,h2⟩:=h;exact⟨_,vs,h1,h2,by simp,by simp,fun H' mu' e r=>⟨vs,e,r⟩⟩
 |dct kvs=>
  obtain⟨ws,h1,h3,h2⟩:=h;exact⟨_,_,h1,h2,by simp,by simp,fun H' mu' e r=>⟨ws,e,h3,r⟩⟩
 |ins c fs=>
  obtain⟨C,dx,ws,h1,h3,h4,h2⟩:=h;exact⟨_,_,h1,h2,by simp,by simp,fun H' mu' e r=>⟨C,dx,ws,e,h3,h4,r⟩⟩
structure ap(K:PySem.W.Frag)(H:Hp)(mu:List Addr)(S:aa):Prop where
 len:mu.length=S.length
 nd:mu.Nodup
 obj:∀(i:Nat) a o,mu[i]?=some a->S[i]?=some o->lZ K H mu a o
structure bd(K:PySem.W.Frag)(H:Hp)(mu:List Addr)(ro:Ro)(sg:L2.St):Prop where
 len:ro.length=sg.length
 val:∀(i:Nat) p,ro[i]?=some (some p)->∃v,sg[i]?=some (some v)/\ak K H mu p v
theorem Step.env(s:Step H mu H' mu'){ro:Ro}{sg:L2.St}(e:bd K H mu ro sg):bd K H' mu' ro sg:=
 ⟨e.len,fun i p h=>let ⟨v,h1,h2⟩:=e.val i p h;⟨v,h1,s.rep h2⟩⟩
theorem bd.set{ro:Ro}{sg:L2.St}(e:bd K H mu ro sg)(i:Nat){p:PV}{v:V}(r:ak K H mu p v):bd K H mu (ro.set i (some p)) (sg.set i (some v)):=by
 refine⟨by simp[e.len],fun j q h=>?_⟩;by_cases hj:j=i
 ·subst hj;have hl:j<ro.length:=by
   have:=(bF.mp h).1
   simpa using this
  rw[rO hl]at h;have h':p=q:=by simpa using h
  subst h';exact⟨v,by rw[rO (by rw[←e.len];exact hl)],r⟩
 ·rw[fw (a7 hj)]at h;obtain⟨w,h1,h2⟩:=e.val j q h;exact⟨w,by rw[fw (a7 hj)];exact h1,h2⟩
theorem Step.laid{a:Addr}{o:HO}(hn:H a=none)(S:aa):Step H mu (ay H a o) mu where
 tup:=fun b xs h=>by rw[aR (dz h hn)];exact h
 frz:=fun b u w h=>by rw[aR (dz h hn)];exact h
 lst:=fun b xs h _=>by rw[aR (dz h hn)];exact h
 dom:=fun b h=>by
  by_cases e:b=a
  ·subst e;exact hn
  ·rw[aR e]at h;exact h
 ext:=⟨[],by simp,fun _ h=>nomatch h⟩
theorem ap.out{S:aa}(m:ap K H mu S){a:Addr}(hn:H a=none):a∉mu:=fun hm=>by
 obtain⟨i,hi,e⟩:=pW hm;have h1:mu[i]?=some a:=by rw[a6 hi,e]
 have h2:i<S.length:=by rw[←m.len];exact hi
 have h3:=m.obj i a S[i] h1 (a6 h2);obtain⟨ho,vs,h4,_⟩:=h3.gen;rw[hn]at h4;cases h4
theorem ap.laid{S:aa}(m:ap K H mu S){a:Addr}{o:HO}(hn:H a=none):ap K (ay H a o) mu S:=by
 refine⟨m.len,m.nd,fun i b u h1 h2=>?_⟩;obtain⟨ho,vs,h4,h5,_,_,mk⟩:=(m.obj i b u h1 h2).gen;exact mk _ _ (by rw[aR (dz h4 hn)];exact h4) ((Step.laid (mu:=mu) hn S).reps h5)
theorem Step.grow{a:Addr}{o:HO}(hn:H a=none):Step H mu (ay H a o) (mu++[a]) where
 tup:=fun b xs h=>by rw[aR (dz h hn)];exact h
 frz:=fun b u w h=>by rw[aR (dz h hn)];exact h
 lst:=fun b xs h _=>by rw[aR (dz h hn)];exact h
 dom:=fun b h=>by
  by_cases e:b=a
  ·subst e;exact hn
  ·rw[aR e]at h;exact h
 ext:=⟨[a],rfl,fun b h=>by simp at h;subst h;exact hn⟩
theorem ap.growG{S:aa}(m:ap K H mu S){a:Addr}{o:MO}{ho:HO}(hn:H a=none)(mk:∀H',H' a=some ho->Step H mu H' (mu++[a])->lZ K H' (mu++[a]) a o):ap K (ay H a ho) (mu++[a]) (S++[o]):=by
 have st:Step H mu (ay H a ho) (mu++[a]):=Step.grow hn;refine⟨by simp[m.len],?_,fun i b u h1 h2=>?_⟩
 ·rw[wU];refine⟨m.nd,by simp,fun x hx y hy=>?_⟩;simp at hy;subst hy;rintro rfl;exact m.out hn hx
 ·by_cases hi:i<mu.length
  ·rw[dI hi]at h1;rw[dI (by rw[←m.len];exact hi)]at h2;obtain⟨hb,ws,h4,h5,_,_,mk'⟩:=(m.obj i b u h1 h2).gen;exact mk' _ _ (by rw[aR (dz h4 hn)];exact h4) (st.reps h5)
  ·have hi':mu.length<=i:=Nat.le_of_not_lt hi;rw[fP hi']at h1;rw[fP (by rw[←m.len];exact hi')]at h2;have e:i-mu.length=0:=by
    have:=(bF.mp h1).1;simp at this;omega
   have e':i-S.length=0:=by rw[←m.len];exact e
   rw[e]at h1;rw[e']at h2;simp at h1 h2;subst h1;subst h2;exact mk _ eQ st
theorem ap.grow{S:aa}(m:ap K H mu S){a:Addr}{xs:List PV}{vs:List V}(hn:H a=none)(r:ai K H mu xs vs):ap K (ay H a (.lst vs)) (mu++[a]) (S++[.lst xs]):=
 m.growG hn fun _ e st=>⟨vs,e,st.reps r⟩
theorem Step.writeG{a:Addr}{n:Nat}{ho ho':HO}(hn:mu[n]?=some a)(hH:H a=some ho)(n1:∀xs,ho≠.tup xs)(n2:∀b u,ho≠.frz b u):Step H mu (ay H a ho') mu where
 tup:=fun b xs h=>by rw[aR (tN h hH (by rintro rfl;exact n1 _ rfl))];exact h
 frz:=fun b u w h=>by rw[aR (tN h hH (by rintro rfl;exact n2 _ _ rfl))];exact h
 lst:=fun b xs h nb=>by
  have:b≠a:=by rintro rfl;exact nb (jm hn)
  rw[aR this];exact h
 dom:=fun b h=>by
  by_cases e:b=a
  ·subst e;rw[eQ]at h;cases h
  ·rw[aR e]at h;exact h
 ext:=⟨[],by simp,fun _ h=>nomatch h⟩
theorem Step.write{a:Addr}{n:Nat}{ys vs:List V}(hn:mu[n]?=some a)(hH:H a=some (.lst ys)):Step H mu (ay H a (.lst vs)) mu:=Step.writeG hn hH (by simp) (by simp)
theorem nB{l:List Addr}(hN:l.Nodup){i j:Nat}{x:Addr}(a:l[i]?=some x)(b:l[j]?=some x):i=j:=by
 obtain⟨h1,e1⟩:=bF.mp a;obtain⟨h2,e2⟩:=bF.mp b;exact(List.getElem_inj hN).mp (e1.trans e2.symm)
theorem ap.writeG{S:aa}(m:ap K H mu S){a:Addr}{n:Nat}{o:MO}{ho ho':HO}(hn:mu[n]?=some a)(hH:H a=some ho)(n1:∀xs,ho≠.tup xs)(n2:∀b u,ho≠.frz b u)(mk:∀H',H' a=some ho'->Step H mu H' mu->lZ K H' mu a o) :
  ap K (ay H a ho') mu (S.set n o):=by
 have st:Step H mu (ay H a ho') mu:=Step.writeG hn hH n1 n2;refine⟨by simp[m.len],m.nd,fun i b u h1 h2=>?_⟩;by_cases hi:i=n
 ·subst hi;rw[hn]at h1;cases h1;have hl:i<S.length:=by rw[←m.len];exact(bF.mp hn).1
  rw[rO hl]at h2;cases h2;exact mk _ eQ st
 ·rw[fw (a7 hi)]at h2;have hb:b≠a:=by
   rintro rfl;exact hi (nB m.nd h1 hn)
  obtain⟨hc,ws,h4,h5,_,_,mk'⟩:=(m.obj i b u h1 h2).gen;exact mk' _ _ (by rw[aR hb];exact h4) (st.reps h5)
theorem ap.write{S:aa}(m:ap K H mu S){a:Addr}{n:Nat}{xs:List PV}{ys vs:List V}(hn:mu[n]?=some a)(hH:H a=some (.lst ys))(r:ai K H mu xs vs) :
  ap K (ay H a (.lst vs)) mu (S.set n (.lst xs)):=m.writeG hn hH (by simp) (by simp) fun _ e st=>⟨vs,e,st.reps r⟩
end
end Q
set_option genInjectivity false
namespace Q
open PySem PySem.Spec PyProof.Rows L2
noncomputable abbrev aj:Nat:=16777216
noncomputable def aE(S:aa):PV->Option (List PV)
 |.tup xs=>some xs
 |.lst xs=>some xs
 |.ref n=>match S[n]? with|some (.lst xs)=>some xs|_=>none
 |_=>none
noncomputable def iQ(S:aa):PV->Option (List PV)
 |.lst xs=>some xs
 |.ref n=>match S[n]? with|some (.lst xs)=>some xs|_=>none
 |_=>none
mutual
noncomputable def b_:PV->PV->Bool
 |.non,.non=>true
 |.bl a,.bl b=>a==b
 |.bl a,.int j=>(if a then 1 else 0)==j
 |.int i,.bl b=>i==(if b then 1 else 0)
 |.int a,.int b=>a==b
 |.str a,.str b=>a==b
 |.tup xs,.tup ys=>fU xs ys
 |.lst xs,.lst ys=>fU xs ys
 |_,_=>false
noncomputable def fU:List PV->List PV->Bool
 |[],[]=>true
 |x::xs,y::ys=>b_ x y&&fU xs ys
 |[],_::_=>false
 |_::_,[]=>false
end
mutual
noncomputable def aM:PV->Nat->Bool
 |.non,_=>true
 |.bl _,_=>true
 |.int _,_=>true
 |.str x,_=>PyData.strOk x
 |.tup xs,d+1=>a_ xs d
 |.lst xs,d+1=>a_ xs d
 |.tup _,0=>false
 |.lst _,0=>false
 |.ref _,_=>false
noncomputable def a_:List PV->Nat->Bool
 |[],_=>true
 |x::xs,d=>aM x d&&a_ xs d
end
noncomputable def aJ(S:aa):PV->Option Bool
 |.non=>some false
 |.bl b=>some b
 |.int i=>some (i != 0)
 |.str x=>if x.length<=aj then some ((x.length:Int) != 0) else none
 |.tup xs=>some (!xs.isEmpty)
 |.lst xs=>some (!xs.isEmpty)
 |.ref n=>match S[n]? with|some (.lst xs)=>some (!xs.isEmpty)|some (.dct kvs)=>some (!kvs.isEmpty)|_=>none
noncomputable def zr(i j:Int):Prop:=(-(2 ^ 64)<i/\i<2 ^ 64)\/(-(2 ^ 64)<j/\j<2 ^ 64)
noncomputable def zt(n:Int)(k:Nat):Prop:=0<=n/\n<4611686018427387904/\(n=1\/0<k)/\k*n.toNat<=16777216
open Classical in
noncomputable def binI(S:aa)(o:eD)(i j:Int):ac PV:=match o with
 |.add=>.ok (.int (i+j)) S
 |.sub=>.ok (.int (i-j)) S
 |.mul=>if zr i j then .ok (.int (i*j)) S else .bad
 |.fdiv=>if 0<j/\j<1073741824 then .ok (.int (i/j)) S else .bad
 |.mod=>if 0<j then .ok (.int (i%j)) S else .bad
open Classical in
noncomputable def aN(S:aa)(o:eD)(x y:PV):ac PV:=match x with
 |.int i=>(match y with|.int j=>binI S o i j|_=>.bad)
 |.tup xs=>(match y with
  |.int n=>(match o with|.mul=>if zt n xs.length then .ok (.tup (List.replicate n.toNat xs).flatten) S else .bad|_=>.bad)
  |.tup ys=>(match o with|.add=>if xs.length+ys.length<=aj then .ok (.tup (xs++ys)) S else .bad|_=>.bad)
  |_=>.bad)
 |.lst xs=>(match y with
  |.lst ys=>(match o with|.add=>if xs.length+ys.length<=aj then .ok (.lst (xs++ys)) S else .bad|_=>.bad)
  |_=>.bad)
 |_=>.bad
noncomputable def cO:PV->Option ao
 |.int i=>some (.inl i)
 |.str x=>some (.inr x)
 |_=>none
noncomputable def eZ(k:ao):PV:=match k with|.inl i=>.int i|.inr x=>.str x
noncomputable def cC(kvs:List (ao×PV))(k:ao):Option PV:=(kvs.find? fun kv=>decide (kv.1=k)).map (·.2)
noncomputable def dA(kvs:List (ao×PV))(k:ao)(v:PV):List (ao×PV):=
 if (kvs.any fun kv=>decide (kv.1=k))=true then kvs.map (fun kv=>if kv.1=k then (kv.1,v) else kv) else kvs++[(k,v)]
noncomputable def l5(kvs:List (ao×PV))(k:ao):List (ao×PV):=kvs.filter fun kv=>decide (kv.1≠k)
noncomputable def kP(kvs more:List (ao×PV)):List (ao×PV):=more.foldl (fun acc kv=>dA acc kv.1 kv.2) kvs
noncomputable def bB(S:aa):PV->Option (Nat×List (ao×PV))
 |.ref n=>(match S[n]? with|some (.dct kvs)=>some (n,kvs)|_=>none)
 |_=>none
noncomputable def cj(S:aa)(x:PV):ac PV:=
 match x with
 |.ref n=>(match S[n]? with
  |some (.lst _)=>.ok x S
  |_=>.bad)
 |_=>.bad
noncomputable def FL(S:aa)(x k:PV):ac PV:=
 match x with
 |.ref n=>(match S[n]? with
  |some (.lst xs)=>(match k with
   |.int i=>if -9223372036854775808<=i/\i<9223372036854775808 then (match eR xs.length i with
    |some j=>(match xs[j]? with|some p=>.ok p (S.set n (.lst (xs.eraseIdx j)))|none=>.bad)
    |none=>.bad) else .bad
   |_=>.bad)
  |_=>.bad)
 |_=>.bad
noncomputable def FM(S:aa)(x k:PV):ac PV:=
 match bB S x with
 |some (n,kvs)=>(match cO k with
  |some key=>(match cC kvs key with|some p=>.ok p (S.set n (.dct (l5 kvs key)))|none=>.bad)
  |none=>.bad)
 |none=>.bad
noncomputable def Oy(S1:aa)(x:PV)(k:aa->ac PV):ac PV:=match bB S1 x with
 |some _=>(k S1).bind fun y S2=>FM S2 x y
 |none=>(cj S1 x).bind fun x S'=>(k S').bind fun y S2=>FL S2 x y
noncomputable def fV(S:aa)(c:Str):PV->Option (Nat×List (Str×PV))
 |.ref n=>(match S[n]? with|some (.ins c' fs)=>if c'=c then some (n,fs) else none|_=>none)
 |_=>none
noncomputable def kQ(f:Str)(v:PV):List (Str×PV)->List (Str×PV)
 |[]=>[(f,v)]
 |(g,x)::r=>if g=f then (g,v)::r else (g,x)::kQ f v r
noncomputable def bN(S:aa)(c:Str)(x:PV)(f:Str):ac PV:=
 match fV S c x with
 |some (_,fs)=>(match fs.lookup f with|some p=>.ok p S|none=>.bad)
 |none=>.bad
noncomputable def cm(S:aa)(c:Str)(x:PV)(f:Str)(y:PV):ac Unit:=
 match fV S c x with
 |some (n,fs)=>if fs.length<1000 then .ok () (S.set n (.ins c (kQ f y fs))) else .bad
 |none=>.bad
noncomputable def FN:PV->List PV->Bool
 |_,[]=>false
 |x,y::ys=>b_ y x||FN x ys
noncomputable def kR(S:aa)(f:Int->Int->Bool)(x y:PV):ac PV:=match x,y with
 |.int i,.int j=>.ok (.bl (f i j)) S
 |_,_=>.bad
noncomputable def l6(S:aa)(x y:PV):Option Bool:=match bB S y,cO x with
 |some (_,kvs),some k=>some (cC kvs k).isSome
 |_,_=>none
noncomputable def nF(S:aa)(x y:PV):Option Bool:=match aE S y with
 |some xs=>if aM x 50&&a_ xs 50 then some (xs.any fun y=>b_ y x) else none
 |none=>none
noncomputable def l8(S:aa)(x y:PV):Option Bool:=match l6 S x y with
 |some b=>some b
 |none=>nF S x y
noncomputable def aK(S:aa)(o:ku)(x y:PV):ac PV:=match o with
 |.eq=>if aM x 60&&aM y 60 then .ok (.bl (b_ x y)) S else .bad
 |.ne=>if aM x 60&&aM y 60 then .ok (.bl (!b_ x y)) S else .bad
 |.lt=>kR S (fun i j=>decide (i<j)) x y
 |.le=>kR S (fun i j=>decide (i<=j)) x y
 |.gt=>kR S (fun i j=>decide (j<i)) x y
 |.ge=>kR S (fun i j=>decide (j<=i)) x y
 |.inn=>(match l8 S x y with|some b=>.ok (.bl b) S|none=>.bad)
 |.notin=>(match l8 S x y with|some b=>.ok (.bl (!b)) S|none=>.bad)
noncomputable def dB(xs:List PV)(lo hi:Option Int):List PV:=(xs.drop (HT.sIx xs.length 0 lo)).take (HT.sIx xs.length xs.length hi-HT.sIx xs.length 0 lo)
noncomputable def kS:PV->Option (Option Int)
 |.non=>some none
 |.int i=>some (some i)
 |_=>none
noncomputable def iR{α:Type}:List α->List α
 |[]=>[]
 |[a]=>[a]
 |a::_::l=>a::iR l
noncomputable def Oz(S:aa)(x lo hi:PV):ac PV:=
 match kS lo,kS hi with
 |some l,some h=>(match x with
  |.tup xs=>.ok (.tup (iR (dB xs l h))) S
  |_=>.bad)
 |_,_=>.bad
noncomputable def hW(S:aa)(x lo hi:PV):ac PV:=
 match kS lo,kS hi with
 |some l,some h=>(match x with
  |.tup xs=>.ok (.tup (dB xs l h)) S
  |.lst xs=>.ok (.lst (dB xs l h)) S
  |_=>.bad)
 |_,_=>.bad
noncomputable def gv(S:aa)(x i:PV):ac PV:=
 match bB S x,cO i with
 |some (_,kvs),some k=>(match cC kvs k with|some v=>.ok v S|none=>.bad)
 |_,_=>.bad
noncomputable def aU(S:aa)(x i:PV):ac PV:=
 match aE S x with
 |some xs=>(match i with
  |.int k=>(match bn xs k with|some v=>.ok v S|none=>.bad)
  |_=>.bad)
 |none=>gv S x i
noncomputable def tZ:Ty->PV->Option Bool
 |.bool,.bl _=>some true
 |.int,.int _=>some true
 |.int,.bl _=>some true
 |.str,.str _=>some true
 |.tuple,.tup _=>some true
 |.list,.lst _=>some true
 |_,.ref _=>none
 |_,_=>some false
noncomputable def fB:List PV->Option (List Bool)
 |[]=>some []
 |.bl i::xs=>match fB xs with|some l=>some (i::l)|none=>none
 |_::_=>none
noncomputable def de:List PV->Option (List Int)
 |[]=>some []
 |.int i::xs=>match de xs with|some l=>some (i::l)|none=>none
 |_::_=>none
noncomputable def dO(S:aa)(x:PV):Option (List Int):=match iQ S x with|some xs=>de xs|none=>none
noncomputable def dk(l:List Int):List Int:=l.mergeSort fun a b=>decide (a<=b)
noncomputable def iS(l:List Int):List Int:=l.mergeSort fun a b=>decide (b<=a)
noncomputable def jF(f:List Int->List Int)(S:aa)(x:PV):ac PV:=match dO S x with
 |some l=>if l.length<64 then .ok (.lst ((f l).map .int)) S else .bad
 |none=>.bad
noncomputable def cP:List Int->Option Int
 |[]=>none
 |[i]=>some i
 |i::j::l=>(match cP (j::l)with|some m=>some (if m<i then m else i)|none=>none)
noncomputable def jG:List Int->Option Int
 |[]=>none
 |[i]=>some i
 |i::j::l=>(match jG (j::l)with|some m=>some (if i<m then m else i)|none=>none)
noncomputable def l9(f:List Int->Option Int)(S:aa)(x:PV):ac PV:=match dO S x with
 |some l=>(match f l with|some i=>.ok (.int i) S|none=>.bad)
 |none=>.bad
noncomputable def nG(S:aa)(kvs:List (ao×PV)):ac PV:=match de ((kvs.map (·.1)).map eZ)with
 |some l=>if l.length<64 then .ok (.lst ((dk l).map .int)) S else .bad
 |none=>.bad
noncomputable def nH(S:aa)(x:PV):ac PV:=match bB S x with
 |some (_,kvs)=>nG S kvs
 |none=>jF dk S x
noncomputable def t0(S:aa)(x:PV):ac PV:=match bB S x with
 |some (_,kvs)=>.ok (.lst ((kvs.map (·.1)).map eZ)) S
 |none=>.bad
noncomputable def e8(S:aa)(x:PV):ac PV:=match bB S x with
 |some _=>.ok x S
 |none=>.bad
noncomputable def kT(S:aa)(x k d:PV):ac PV:=match bB S x,cO k with
 |some (n,kvs),some key=>(match cC kvs key with|some p=>.ok p (S.set n (.dct (l5 kvs key)))|none=>.ok d S)
 |_,_=>.bad
noncomputable def jH(S:aa)(x i v:PV):ac Unit:=match bB S x,cO i with
 |some (n,kvs),some k=>if kvs.length<aj then .ok () (S.set n (.dct (dA kvs k v))) else .bad
 |_,_=>.bad
noncomputable def qx(y:Str):List (Str×Int)->Option Int
 |[]=>none
 |(x,i)::D=>if y=x then some i else qx y D
noncomputable def h7(D:List (Str×Int))(S:aa)(k:PV):ac PV:=match k with
 |.str y=>(match qx y D with|some i=>.ok (.int i) S|none=>.bad)
 |_=>.bad
mutual
noncomputable def eG:PV->PV->Option Bool
 |.int a,y=>(match y with|.int b=>some (decide (a<b))|_=>none)
 |.tup xs,y=>(match y with|.tup ys=>eI xs ys|_=>none)
 |_,_=>none
noncomputable def eI:List PV->List PV->Option Bool
 |[],ys=>some (!ys.isEmpty)
 |x::xs,ys=>(match ys with|[]=>some false|y::zs=>if b_ x y then eI xs zs else eG x y)
end
noncomputable def iT:PV->List PV->Option PV
 |b,[]=>some b
 |b,x::l=>(match eG x b with|some true=>iT x l|some false=>iT b l|none=>none)
noncomputable def qy(S:aa)(x:PV):ac PV:=match iQ S x with
 |some (b::l)=>if a_ (b::l) 20 then (match iT b l with|some p=>.ok p S|none=>.bad) else .bad
 |_=>.bad
noncomputable def t8(S:aa)(x:PV):ac PV:=qy S x
noncomputable def jI(S:aa)(x:PV):ac PV:=match dO S x with
 |some l=>(match cP l with|some i=>.ok (.int i) S|none=>.bad)
 |none=>t8 S x
mutual
noncomputable def aS:PV->PyData
 |.non=>.none
 |.bl b=>.bool b
 |.int i=>.int i
 |.str x=>.str x
 |.tup xs=>.tuple (bD xs)
 |.lst xs=>.list (bD xs)
 |.ref _=>.none
noncomputable def bD:List PV->List PyData
 |[]=>[]
 |x::xs=>aS x::bD xs
end
noncomputable def zu(S:aa)(x:PV):ac PV:=match x with
 |.tup xs=>if aM (.tup xs) 50=true/\(aS (.tup xs)).showable=true/\(aS (.tup xs)).shown.length<=aj then .ok (.str (aS (.tup xs)).shown) S else .bad
 |_=>.bad
noncomputable def dP(S:aa)(b:Bi)(x:PV):ac PV:=match b with
 |.sorted=>nH S x
 |.sortedR=>jF iS S x
 |.len=>(match x with
  |.str y=>if y.length<=aj then .ok (.int y.length) S else .bad
  |x=>(match aE S x with|some xs=>.ok (.int xs.length) S|none=>(match bB S x with|some (_,kvs)=>.ok (.int kvs.length) S|none=>.bad)))
 |.all=>(match aE S x with|some xs=>(match fB xs with|some l=>.ok (.bl (l.all id)) S|none=>.bad)|none=>.bad)
 |.any=>(match aE S x with|some xs=>(match fB xs with|some l=>.ok (.bl (l.any id)) S|none=>.bad)|none=>.bad)
 |.sum=>(match aE S x with|some xs=>(match de xs with|some l=>.ok (.int l.sum) S|none=>.bad)|none=>.bad)
 |.tuple=>(match aE S x with|some xs=>.ok (.tup xs) S|none=>.bad)
 |.list=>(match aE S x with|some xs=>.ok (.lst xs) S|none=>t0 S x)
 |.listN=>(match aE S x with|some xs=>.ok (.ref S.length) (S++[.lst xs])|none=>.bad)
 |.abs=>(match x with|.int i=>.ok (.int (if i<0 then -i else i)) S|_=>.bad)
 |.isinst t=>(match tZ t x with|some b=>.ok (.bl b) S|none=>.bad)
 |.min2=>jI S x
 |.max2=>l9 jG S x
 |.dctL=>.bad
 |.repr=>zu S x
 |.intB=>.bad
noncomputable def zw(S:aa)(b:Bi)(x y:PV):ac PV:=match x with
 |.int i=>(match y with
  |.int j=>(match b with
   |.min2=>.ok (.int (if j<i then j else i)) S
   |.max2=>.ok (.int (if j>i then j else i)) S
   |_=>.bad)
  |_=>.bad)
 |_=>.bad
noncomputable def aC(S:aa)(b:Bi)(ps:List PV):ac PV:=match ps with
 |[x]=>dP S b x
 |[x,y]=>zw S b x y
 |_=>.bad
noncomputable def kU(S:aa)(x k d:PV):ac PV:=match bB S x,cO k with
 |some (_,kvs),some key=>.ok ((cC kvs key).getD d) S
 |_,_=>.bad
noncomputable def jJ(S:aa)(x:PV):ac PV:=match x with
 |.ref n=>(match S[n]? with
  |some (.lst xs)=>(match xs[xs.length-1]? with|some p=>.ok p (S.set n (.lst xs.dropLast))|none=>.bad)
  |_=>.bad)
 |_=>.bad
noncomputable def fC(l:List Int):Nat:=(l.foldl PyProof.Rows.step_dedup []).length
noncomputable def kW(S:aa)(x:PV):ac PV:=match dO S x with
 |some l=>if l.length<1000 then .ok (.int (fC l)) S else .bad
 |none=>.bad
noncomputable def l_(S:aa)(x:PV):ac PV:=match x with
 |.lst xs=>.ok (.lst xs.reverse) S
 |.tup xs=>.ok (.tup xs.reverse) S
 |_=>.bad
noncomputable def zx(S:aa):PV->Option (List PV)
 |.lst xs=>some xs
 |.ref n=>(match S[n]? with|some (.lst xs)=>some xs|_=>none)
 |_=>none
noncomputable def OA(S:aa)(x y:PV):ac PV:=
 match zx S x,zx S y with
 |some xs,some ys=>if xs.length+ys.length<=aj then .ok (.ref S.length) (S++[.lst (xs++ys)]) else .bad
 |_,_=>.bad
noncomputable def gw(S:aa)(x e:PV):ac PV:=
 match x with
 |.ref n=>(match S[n]? with
  |some (.lst xs)=>if xs.length<aj then .ok .non (S.set n (.lst (xs++[e]))) else .bad
  |_=>.bad)
 |_=>.bad
noncomputable def kX(S:aa)(x e:PV):ac PV:=
 match x,aE S e with
 |.ref n,some ys=>(match S[n]? with
  |some (.lst xs)=>if xs.length+ys.length<=aj then .ok .non (S.set n (.lst (xs++ys))) else .bad
  |_=>.bad)
 |_,_=>.bad
structure Itm where
 xs:List PV
 ck:Option (Nat×List PV)
noncomputable def e9(S:aa):PV->Option (Nat×List PV)
 |.ref n=>match S[n]? with|some (.lst xs)=>some (n,xs)|_=>none
 |_=>none
noncomputable def t9:PV->Bool
 |.ref _=>false
 |_=>true
noncomputable def bI(lo:Int)(n:Nat):List PV:=(List.range n).map fun(k:Nat)=>.int (lo+(k:Int))
noncomputable def e_:List PV->List PV->List PV
 |x::xs,y::ys=>.tup [x,y]::e_ xs ys
 |_,_=>[]
noncomputable def dm:Int->List PV->List PV
 |_,[]=>[]
 |k,x::xs=>.tup [.int k,x]::dm (k+1) xs
noncomputable def ma(j:Int):Prop:=-(2 ^ 62)<=j/\j<2 ^ 62
open Classical in
noncomputable def h8(S:aa)(k:dJ)(x:PV):Option Itm:=match k with
 |.seq=>(match aE S x with|some xs=>some ⟨xs,e9 S x⟩|none=>none)
 |.range=>(match x with|.int j=>if ma j then some ⟨bI 0 j.toNat,none⟩ else none|_=>none)
 |.enum=>(match aE S x with|some xs=>some ⟨dm 0 xs,e9 S x⟩|none=>none)
 |_=>none
open Classical in
noncomputable def h_(S:aa)(k:dJ)(x y:PV):Option Itm:=match k with
 |.range=>(match x with|.int i=>(match y with|.int j=>if ma i/\ma j then some ⟨bI i (j-i).toNat,none⟩ else none|_=>none)|_=>none)
 |.zip=>if t9 x then (match aE S x,aE S y with|some xs,some ys=>some ⟨e_ xs ys,e9 S y⟩|_,_=>none) else none
 |.enumK=>(match y with|.int k=>if 0<=k/\k<4611686018427387904 then (match aE S x with|some xs=>some ⟨dm k xs,e9 S x⟩|none=>none) else none|_=>none)
 |_=>none
noncomputable def a8(S:aa)(k:dJ)(ps:List PV):Option Itm:=match ps with
 |[x]=>h8 S k x
 |[x,y]=>h_ S k x y
 |_=>none
open Classical in
noncomputable def bw(S:aa):Option (Nat×List PV)->Bool
 |none=>true
 |some (n,xs)=>decide (S[n]?=some (.lst xs))
noncomputable def fE:List Nat->List PV->Ro->Ro
 |i::is,p::ps,ro=>fE is ps (ro.set i (some p))
 |_,_,ro=>ro
noncomputable def bx:Tg->PV->Ro->Option Ro
 |.one i,p,ro=>some (ro.set i (some p))
 |.many is,.tup ps,ro=>if ps.length=is.length then some (fE is ps ro) else none
 |.many _,_,_=>none
noncomputable def bW(f:Ro->aa->ac PV)(tg:Tg)(ck:Option (Nat×List PV)):List PV->Ro->aa->ac (List PV)
 |[],_,S=>if bw S ck then .ok [] S else .bad
 |x::xs,ro,S=>if bw S ck then (match bx tg x ro with
   |some ro1=>(f ro1 S).bind fun p S1=>(bW f tg ck xs ro1 S1).bind fun ps S2=>.ok (p::ps) S2
   |none=>.bad) else .bad
noncomputable def ia(c f:Ro->aa->ac PV)(tg:Tg)(ck:Option (Nat×List PV)):List PV->Ro->aa->ac (List PV)
 |[],_,S=>if bw S ck then .ok [] S else .bad
 |x::xs,ro,S=>if bw S ck then (match bx tg x ro with
   |some ro1=>(c ro1 S).bind fun q S0=>(match aJ S0 q with
    |some true=>(f ro1 S0).bind fun p S1=>(ia c f tg ck xs ro1 S1).bind fun ps S2=>.ok (p::ps) S2
    |some false=>(ia c f tg ck xs ro1 S0).bind fun ps S2=>.ok ps S2
    |none=>.bad)
   |none=>.bad) else .bad
noncomputable def bt(own:Nat)(out:List Nat)(ro:Ro):Ro:=List.replicate own none++out.map fun j=>(ro[j]?).getD none
noncomputable def fb(n:Nat)(ks:List ao)(ps:List PV)(S:aa):ac PV:=
 if ks.length<=15/\ps.length=ks.length then (match S[n]? with
  |some (.dct [])=>.ok (.ref n) (S.set n (.dct (kP [] (ks.zip ps))))
  |_=>.bad) else .bad
noncomputable def kY(n:Nat)(r:ac PV):ac PV:=r.bind fun p S=>match p with|.non=>.ok (.ref n) S|_=>.bad
noncomputable def bJ(S:aa)(c m:Str)(x:PV):ac PV:=
 match fV S c x with
 |some (_,fs)=>(match fs.lookup m with|none=>.ok x S|some _=>.bad)
 |none=>.bad
noncomputable def dQ(S:aa)(x i v:PV):ac Unit:=
 match x with
 |.ref n=>(match S[n]? with
  |some (.lst xs)=>(match i with|.int k=>(match eR xs.length k with|some j=>.ok () (S.set n (.lst (xs.set j v)))|none=>.bad)|_=>.bad)
  |some (.dct kvs)=>(match cO i with|some k=>(if kvs.length<aj then .ok () (S.set n (.dct (dA kvs k v))) else .bad)|none=>.bad)
  |_=>.bad)
 |_=>.bad
noncomputable def fc:PV->Bool
 |.non=>true
 |_=>false
mutual
noncomputable def ae(F:Nat->List PV->aa->ac PV):Ex->Ro->aa->ac PV
 |.loc i,ro,S=>match ro[i]? with|some (some p)=>.ok p S|_=>.bad
 |.cst p,_,S=>.ok p S
 |.bin o a b,ro,S=>(ae F a ro S).bind fun x S1=>(ae F b ro S1).bind fun y S2=>aN S2 o x y
 |.neg a,ro,S=>(ae F a ro S).bind fun x S1=>match x with|.int i=>.ok (.int (-i)) S1|_=>.bad
 |.not a,ro,S=>(ae F a ro S).bind fun x S1=>match aJ S1 x with|some b=>.ok (.bl (!b)) S1|none=>.bad
 |.and a b,ro,S=>(ae F a ro S).bind fun x S1=>match aJ S1 x with|some true=>ae F b ro S1|some false=>.ok x S1|none=>.bad
 |.or a b,ro,S=>(ae F a ro S).bind fun x S1=>match aJ S1 x with|some true=>.ok x S1|some false=>ae F b ro S1|none=>.bad
 |.cmp o a b,ro,S=>(ae F a ro S).bind fun x S1=>(ae F b ro S1).bind fun y S2=>aK S2 o x y
 |.isn a,ro,S=>(ae F a ro S).bind fun x S1=>.ok (.bl (fc x)) S1
 |.isnn a,ro,S=>(ae F a ro S).bind fun x S1=>.ok (.bl (!fc x)) S1
 |.ife c a b,ro,S=>(ae F c ro S).bind fun x S1=>match aJ S1 x with|some true=>ae F a ro S1|some false=>ae F b ro S1|none=>.bad
 |.tup es,ro,S=>(aD F es ro S).bind fun ps S1=>if ps.length<=aj then .ok (.tup ps) S1 else .bad
 |.lst es,ro,S=>(aD F es ro S).bind fun ps S1=>if ps.length<=aj then .ok (.lst ps) S1 else .bad
 |.newl es,ro,S=>(aD F es ro S).bind fun ps S1=>if ps.length<=aj then .ok (.ref S1.length) (S1++[.lst ps]) else .bad
 |.idx a i,ro,S=>(ae F a ro S).bind fun x S1=>(ae F i ro S1).bind fun y S2=>aU S2 x y
 |.dnew ks es,ro,S=>(aD F es ro (S++[.dct []])).bind fun ps S1=>fb S.length ks ps S1
 |.pop2 a k d,ro,S=>((ae F a ro S).bind fun x S1=>e8 S1 x).bind fun x S1=>(ae F k ro S1).bind fun y S2=>(ae F d ro S2).bind fun z S3=>kT S3 x y z
 |.tabx D e,ro,S=>(ae F e ro S).bind fun k S1=>h7 D S1 k
 |.fld c a f,ro,S=>(ae F a ro S).bind fun x S1=>bN S1 c x f
 |.mk c i es,ro,S=>(aD F es ro S).bind fun ps S1=>kY S1.length (F i (.ref S1.length::ps) (S1++[.ins c []]))
 |.mth c m i a es,ro,S=>((ae F a ro S).bind fun x S1=>bJ S1 c m x).bind fun x S1=>(aD F es ro S1).bind fun ps S2=>F i (x::ps) S2
 |.rev a,ro,S=>(ae F a ro S).bind fun x S1=>l_ S1 x
 |.get2 a k d,ro,S=>((ae F a ro S).bind fun x S1=>e8 S1 x).bind fun x S1=>(ae F k ro S1).bind fun y S2=>(ae F d ro S2).bind fun z S3=>kU S3 x y z
 |.pop0 a,ro,S=>((ae F a ro S).bind fun x S1=>cj S1 x).bind fun x S1=>jJ S1 x
 |.lset a,ro,S=>(ae F a ro S).bind fun x S1=>kW S1 x
 |.slc a lo hi,ro,S=>(ae F a ro S).bind fun x S1=>(ae F lo ro S1).bind fun l S2=>(ae F hi ro S2).bind fun h S3=>hW S3 x l h
 |.call f es,ro,S=>(aD F es ro S).bind fun ps S1=>F f ps S1
 |.bi b es,ro,S=>(aD F es ro S).bind fun ps S1=>aC S1 b ps
 |.app a e,ro,S=>((ae F a ro S).bind fun x S1=>cj S1 x).bind fun x S1=>(ae F e ro S1).bind fun y S2=>gw S2 x y
 |.ext a e,ro,S=>((ae F a ro S).bind fun x S1=>cj S1 x).bind fun x S1=>(ae F e ro S1).bind fun y S2=>kX S2 x y
 |.comp elt tg k args own out,ro,S=>(aD F args ro S).bind fun ps S1=>match a8 S1 k ps with
  |some it=>(bW (ae F elt) tg it.ck it.xs (bt own out ro) S1).bind fun ys S2=>if ys.length<=aj then .ok (.lst ys) S2 else .bad
  |none=>.bad
 |.compIf elt tg k args cond own out,ro,S=>(aD F args ro S).bind fun ps S1=>match a8 S1 k ps with
  |some it=>(ia (ae F cond) (ae F elt) tg it.ck it.xs (bt own out ro) S1).bind fun ys S2=>if ys.length<=aj then .ok (.lst ys) S2 else .bad
  |none=>.bad
noncomputable def aD(F:Nat->List PV->aa->ac PV):List Ex->Ro->aa->ac (List PV)
 |[],_,S=>.ok [] S
 |e::es,ro,S=>(ae F e ro S).bind fun p S1=>(aD F es ro S1).bind fun ps S2=>.ok (p::ps) S2
end
theorem nI {F i ro S}:ae F (.loc i) ro S=match ro[i]? with|some (some p)=>.ok p S|_=>.bad:=rfl
theorem nJ {F p ro S}:ae F (.cst p) ro S=.ok p S:=rfl
theorem nK {F o a b ro S}:ae F (.bin o a b) ro S=(ae F a ro S).bind fun x S1=>(ae F b ro S1).bind fun y S2=>aN S2 o x y:=rfl
theorem nL {F a ro S}:ae F (.neg a) ro S=(ae F a ro S).bind fun x S1=>match x with|.int i=>.ok (.int (-i)) S1|_=>.bad:=rfl
theorem nM {F a ro S}:ae F (.not a) ro S=(ae F a ro S).bind fun x S1=>match aJ S1 x with|some b=>.ok (.bl (!b)) S1|none=>.bad:=rfl
theorem nN {F a b ro S}:ae F (.and a b) ro S=(ae F a ro S).bind fun x S1=>match aJ S1 x with|some true=>ae F b ro S1|some false=>.ok x S1|none=>.bad:=rfl
theorem nO {F a b ro S}:ae F (.or a b) ro S=(ae F a ro S).bind fun x S1=>match aJ S1 x with|some true=>.ok x S1|some false=>ae F b ro S1|none=>.bad:=rfl
theorem nP {F o a b ro S}:ae F (.cmp o a b) ro S=(ae F a ro S).bind fun x S1=>(ae F b ro S1).bind fun y S2=>aK S2 o x y:=rfl
theorem nQ {F a ro S}:ae F (.isn a) ro S=(ae F a ro S).bind fun x S1=>.ok (.bl (fc x)) S1:=rfl
theorem nR {F a ro S}:ae F (.isnn a) ro S=(ae F a ro S).bind fun x S1=>.ok (.bl (!fc x)) S1:=rfl
theorem nS {F c a b ro S}:ae F (.ife c a b) ro S=(ae F c ro S).bind fun x S1=>match aJ S1 x with|some true=>ae F a ro S1|some false=>ae F b ro S1|none=>.bad:=rfl
theorem nU {F es ro S}:ae F (.tup es) ro S=(aD F es ro S).bind fun ps S1=>if ps.length<=aj then .ok (.tup ps) S1 else .bad:=rfl
theorem nV {F es ro S}:ae F (.lst es) ro S=(aD F es ro S).bind fun ps S1=>if ps.length<=aj then .ok (.lst ps) S1 else .bad:=rfl
theorem nW {F es ro S}:ae F (.newl es) ro S=(aD F es ro S).bind fun ps S1=>if ps.length<=aj then .ok (.ref S1.length) (S1++[.lst ps]) else .bad:=rfl
theorem nX {F a i ro S}:ae F (.idx a i) ro S=(ae F a ro S).bind fun x S1=>(ae F i ro S1).bind fun y S2=>aU S2 x y:=rfl
theorem nY {F ks es ro S}:ae F (.dnew ks es) ro S=(aD F es ro (S++[.dct []])).bind fun ps S1=>fb S.length ks ps S1:=rfl
theorem nZ {F a k d ro S}:ae F (.pop2 a k d) ro S=((ae F a ro S).bind fun x S1=>e8 S1 x).bind fun x S1=>(ae F k ro S1).bind fun y S2=>(ae F d ro S2).bind fun z S3=>kT S3 x y z:=rfl
theorem n0 {F D e ro S}:ae F (.tabx D e) ro S=(ae F e ro S).bind fun k S1=>h7 D S1 k:=rfl
theorem n_ {F c a f ro S}:ae F (.fld c a f) ro S=(ae F a ro S).bind fun x S1=>bN S1 c x f:=rfl
theorem oa {F c i es ro S}:ae F (.mk c i es) ro S=(aD F es ro S).bind fun ps S1=>kY S1.length (F i (.ref S1.length::ps) (S1++[.ins c []])):=rfl
theorem og {F c m i a es ro S}:ae F (.mth c m i a es) ro S=((ae F a ro S).bind fun x S1=>bJ S1 c m x).bind fun x S1=>(aD F es ro S1).bind fun ps S2=>F i (x::ps) S2:=rfl
theorem oh {F a ro S}:ae F (.rev a) ro S=(ae F a ro S).bind fun x S1=>l_ S1 x:=rfl
theorem oi {F a k d ro S}:ae F (.get2 a k d) ro S=((ae F a ro S).bind fun x S1=>e8 S1 x).bind fun x S1=>(ae F k ro S1).bind fun y S2=>(ae F d ro S2).bind fun z S3=>kU S3 x y z:=rfl
theorem oj {F a ro S}:ae F (.pop0 a) ro S=((ae F a ro S).bind fun x S1=>cj S1 x).bind fun x S1=>jJ S1 x:=rfl
theorem om {F a ro S}:ae F (.lset a) ro S=(ae F a ro S).bind fun x S1=>kW S1 x:=rfl
theorem oo {F a lo hi ro S}:ae F (.slc a lo hi) ro S=(ae F a ro S).bind fun x S1=>(ae F lo ro S1).bind fun l S2=>(ae F hi ro S2).bind fun h S3=>hW S3 x l h:=rfl
theorem oq {F f es ro S}:ae F (.call f es) ro S=(aD F es ro S).bind fun ps S1=>F f ps S1:=rfl
theorem kZ {F b es ro S}:ae F (.bi b es) ro S=(aD F es ro S).bind fun ps S1=>aC S1 b ps:=rfl
theorem ou {F a e ro S}:ae F (.app a e) ro S=((ae F a ro S).bind fun x S1=>cj S1 x).bind fun x S1=>(ae F e ro S1).bind fun y S2=>gw S2 x y:=rfl
theorem ow {F a e ro S}:ae F (.ext a e) ro S=((ae F a ro S).bind fun x S1=>cj S1 x).bind fun x S1=>(ae F e ro S1).bind fun y S2=>kX S2 x y:=rfl
theorem md {F elt tg k args own out ro S}:ae F (.comp elt tg k args own out) ro S=(aD F args ro S).bind fun ps S1=>match a8 S1 k ps with
  |some it=>(bW (ae F elt) tg it.ck it.xs (bt own out ro) S1).bind fun ys S2=>if ys.length<=aj then .ok (.lst ys) S2 else .bad
  |none=>.bad:=rfl
theorem mf {F elt tg k args cond own out ro S}:ae F (.compIf elt tg k args cond own out) ro S=(aD F args ro S).bind fun ps S1=>match a8 S1 k ps with
  |some it=>(ia (ae F cond) (ae F elt) tg it.ck it.xs (bt own out ro) S1).bind fun ys S2=>if ys.length<=aj then .ok (.lst ys) S2 else .bad
  |none=>.bad:=rfl
theorem ox {F ro S}:aD F [] ro S=.ok [] S:=rfl
theorem jK {F e es ro S}:aD F (e::es) ro S=(ae F e ro S).bind fun p S1=>(aD F es ro S1).bind fun ps S2=>.ok (p::ps) S2:=rfl
noncomputable def jL(F:Nat->List PV->aa->ac PV):CH->Ro->aa->ac (List PV)
 |.fn es,ro,S=>aD F es ro S
 |.me c m a es,ro,S=>((ae F a ro S).bind fun x S1=>bJ S1 c m x).bind fun x S1=>(aD F es ro S1).bind fun ps S2=>.ok (x::ps) S2
theorem FO {F es ro S}:jL F (.fn es) ro S=aD F es ro S:=rfl
theorem FQ {F c m a es ro S}:jL F (.me c m a es) ro S=((ae F a ro S).bind fun x S1=>bJ S1 c m x).bind fun x S1=>(aD F es ro S1).bind fun ps S2=>.ok (x::ps) S2:=rfl
noncomputable def eS(S:aa)(o:eD)(x y:PV):ac PV:=match x,y with
 |.int i,.int j=>(match o with|.add=>.ok (.int (i+j)) S|.sub=>.ok (.int (i-j)) S|_=>.bad)
 |_,_=>.bad
set_option genInjectivity true
inductive Fl where|next (ro:Ro)|brk (ro:Ro)|cnt (ro:Ro)|ret (p:PV)
noncomputable def jM:CT->PV->Ro->aa->ac Fl
 |.asg i,p,ro,S=>.ok (.next (ro.set i (some p))) S
 |.asgT is,p,ro,S=>match bx (.many is) p ro with|some ro1=>.ok (.next ro1) S|none=>.bad
 |.ret,p,_,S=>.ok (.ret p) S
 |.exp,_,ro,S=>.ok (.next ro) S
noncomputable def ce(f:Ro->aa->ac Fl)(tg:Tg)(ck:Option (Nat×List PV)):List PV->Ro->aa->ac Fl
 |[],ro,S=>if bw S ck then .ok (.next ro) S else .bad
 |x::xs,ro,S=>if bw S ck then (match bx tg x ro with
   |some ro1=>(f ro1 S).andF fun fl S1=>(match fl with
    |.next ro2=>ce f tg ck xs ro2 S1
    |.cnt ro2=>ce f tg ck xs ro2 S1
    |.brk ro2=>.ok (.next ro2) S1
    |.ret p=>.ok (.ret p) S1)
   |none=>.bad) else .bad
noncomputable def cQ(c:Ro->aa->ac PV)(f:Ro->aa->ac Fl):Nat->Ro->aa->ac Fl
 |0,_,_=>.bad
 |n+1,ro,S=>(c ro S).bind fun x S1=>(match aJ S1 x with
  |some true=>(f ro S1).andF fun fl S2=>(match fl with
   |.next ro2=>cQ c f n ro2 S2
   |.cnt ro2=>cQ c f n ro2 S2
   |.brk ro2=>.ok (.next ro2) S2
   |.ret p=>.ok (.ret p) S2)
  |some false=>.ok (.next ro) S1
  |none=>.bad)
mutual
noncomputable def aY(F:Nat->List PV->aa->ac PV)(wf:Nat):Sx->Ro->aa->ac Fl
 |.asg i e,ro,S=>(ae F e ro S).bind fun p S1=>.ok (.next (ro.set i (some p))) S1
 |.asgT is e,ro,S=>(ae F e ro S).bind fun p S1=>match bx (.many is) p ro with|some ro1=>.ok (.next ro1) S1|none=>.bad
 |.par is es,ro,S=>(aD F es ro S).bind fun ps S1=>if ps.length=is.length then .ok (.next (fE is ps ro)) S1 else .bad
 |.aug i o e,ro,S=>match ro[i]? with
  |some (some x)=>(ae F e ro S).bind fun y S1=>(eS S1 o x y).bind fun z S2=>.ok (.next (ro.set i (some z))) S2
  |_=>.bad
 |.augf c a f o e,ro,S=>(ae F a ro S).bind fun x S1=>(bN S1 c x f).bind fun v S2=>(ae F e ro S2).bind fun y S3=>(eS S3 o v y).bind fun z S4=>(cm S4 c x f z).bind fun _ S5=>.ok (.next ro) S5
 |.augi a i o e,ro,S=>(ae F a ro S).bind fun x S1=>(ae F i ro S1).bind fun z S2=>(gv S2 x z).bind fun v S3=>(ae F e ro S3).bind fun y S4=>(eS S4 o v y).bind fun w S5=>(jH S5 x z w).bind fun _ S6=>.ok (.next ro) S6
 |.exp e,ro,S=>(ae F e ro S).bind fun _ S1=>.ok (.next ro) S1
 |.ret e,ro,S=>(ae F e ro S).bind fun p S1=>.ok (.ret p) S1
 |.retN,_,S=>.ok (.ret .non) S
 |.ite c a b,ro,S=>(ae F c ro S).bind fun x S1=>match aJ S1 x with|some true=>ar F wf a ro S1|some false=>ar F wf b ro S1|none=>.bad
 |.for_ tg k args body,ro,S=>(aD F args ro S).bind fun ps S1=>match a8 S1 k ps with
  |some it=>ce (ar F wf body) tg it.ck it.xs ro S1
  |none=>.bad
 |.whl c body,ro,S=>cQ (ae F c) (ar F wf body) wf ro S
 |.setf c a f e,ro,S=>(ae F e ro S).bind fun y S1=>(ae F a ro S1).bind fun x S2=>(cm S2 c x f y).bind fun _ S3=>.ok (.next ro) S3
 |.seti a i e,ro,S=>(ae F e ro S).bind fun y S1=>(ae F a ro S1).bind fun x S2=>(ae F i ro S2).bind fun k S3=>(dQ S3 x k y).bind fun _ S4=>.ok (.next ro) S4
 |.pass,ro,S=>.ok (.next ro) S
 |.brk,ro,S=>.ok (.brk ro) S
 |.cnt,ro,S=>.ok (.cnt ro) S
 |.raise c args,ro,S=>(aD F args ro S).bind fun _ S1=>.exn c S1
 |.calls t f args,ro,S=>(jL F args ro S).bind fun ps S1=>(F f ps S1).andF fun p S2=>jM t p ro S2
noncomputable def ar(F:Nat->List PV->aa->ac PV)(wf:Nat):List Sx->Ro->aa->ac Fl
 |[],ro,S=>.ok (.next ro) S
 |s::ss,ro,S=>(aY F wf s ro S).andF fun fl S1=>match fl with
  |.next ro1=>ar F wf ss ro1 S1
  |.brk ro1=>.ok (.brk ro1) S1
  |.cnt ro1=>.ok (.cnt ro1) S1
  |.ret p=>.ok (.ret p) S1
end
theorem oy {F wf i e ro S}:aY F wf (.asg i e) ro S=(ae F e ro S).bind fun p S1=>.ok (.next (ro.set i (some p))) S1:=rfl
theorem oA {F wf is e ro S}:aY F wf (.asgT is e) ro S=(ae F e ro S).bind fun p S1=>match bx (.many is) p ro with|some ro1=>.ok (.next ro1) S1|none=>.bad:=rfl
theorem oC {F wf is es ro S}:aY F wf (.par is es) ro S=(aD F es ro S).bind fun ps S1=>if ps.length=is.length then .ok (.next (fE is ps ro)) S1 else .bad:=rfl
theorem oE {F wf i o e ro S}:aY F wf (.aug i o e) ro S=match ro[i]? with
  |some (some x)=>(ae F e ro S).bind fun y S1=>(eS S1 o x y).bind fun z S2=>.ok (.next (ro.set i (some z))) S2
  |_=>.bad:=rfl
theorem oF {F wf c a f o e ro S}:aY F wf (.augf c a f o e) ro S=(ae F a ro S).bind fun x S1=>(bN S1 c x f).bind fun v S2=>(ae F e ro S2).bind fun y S3=>(eS S3 o v y).bind fun z S4=>(cm S4 c x f z).bind fun _ S5=>.ok (.next ro) S5:=rfl
theorem oG {F wf a i o e ro S}:aY F wf (.augi a i o e) ro S=(ae F a ro S).bind fun x S1=>(ae F i ro S1).bind fun z S2=>(gv S2 x z).bind fun v S3=>(ae F e ro S3).bind fun y S4=>(eS S4 o v y).bind fun w S5=>(jH S5 x z w).bind fun _ S6=>.ok (.next ro) S6:=rfl
theorem oH {F wf e ro S}:aY F wf (.exp e) ro S=(ae F e ro S).bind fun _ S1=>.ok (.next ro) S1:=rfl
theorem oI {F wf e ro S}:aY F wf (.ret e) ro S=(ae F e ro S).bind fun p S1=>.ok (.ret p) S1:=rfl
theorem oJ {F wf c a b ro S}:aY F wf (.ite c a b) ro S=(ae F c ro S).bind fun x S1=>match aJ S1 x with|some true=>ar F wf a ro S1|some false=>ar F wf b ro S1|none=>.bad:=rfl
theorem oK {F wf tg k args body ro S}:aY F wf (.for_ tg k args body) ro S=(aD F args ro S).bind fun ps S1=>match a8 S1 k ps with
  |some it=>ce (ar F wf body) tg it.ck it.xs ro S1
  |none=>.bad:=rfl
theorem oM {F wf c body ro S}:aY F wf (.whl c body) ro S=cQ (ae F c) (ar F wf body) wf ro S:=rfl
theorem oN {F wf c a f e ro S}:aY F wf (.setf c a f e) ro S=(ae F e ro S).bind fun y S1=>(ae F a ro S1).bind fun x S2=>(cm S2 c x f y).bind fun _ S3=>.ok (.next ro) S3:=rfl
theorem oO {F wf a i e ro S}:aY F wf (.seti a i e) ro S=(ae F e ro S).bind fun y S1=>(ae F a ro S1).bind fun x S2=>(ae F i ro S2).bind fun k S3=>(dQ S3 x k y).bind fun _ S4=>.ok (.next ro) S4:=rfl
theorem oP {F wf c args ro S}:aY F wf (.raise c args) ro S=(aD F args ro S).bind fun _ S1=>.exn c S1:=rfl
theorem oQ {F wf t f args ro S}:aY F wf (.calls t f args) ro S=(jL F args ro S).bind fun ps S1=>(F f ps S1).andF fun p S2=>jM t p ro S2:=rfl
theorem mh {F wf ro S}:ar F wf [] ro S=.ok (.next ro) S:=rfl
theorem k6 {F wf s ss ro S}:ar F wf (s::ss) ro S=(aY F wf s ro S).andF fun fl S1=>match fl with
  |.next ro1=>ar F wf ss ro1 S1
  |.brk ro1=>.ok (.brk ro1) S1
  |.cnt ro1=>.ok (.cnt ro1) S1
  |.ret p=>.ok (.ret p) S1:=rfl
mutual
noncomputable def below(k:Nat):PV->Bool
 |.tup xs=>bz k xs
 |.lst xs=>bz k xs
 |.ref n=>decide (n<k)
 |_=>true
noncomputable def bz(k:Nat):List PV->Bool
 |[]=>true
 |x::xs=>below k x&&bz k xs
end
noncomputable def MO.below(k:Nat)(o:MO):Bool:=bz k o.vals
noncomputable def oR(S S1:aa):Prop:=∀i o,i<S.length->S1[i]?=some o->S[i]?=some o\/o.below S.length=true
open Classical in
noncomputable def bX(S S1:aa)(p:PV):ac PV:=
 if oR S S1/\S.length<=S1.length then
  (if below S.length p=true then .ok p (S1.take S.length) else
   match p with
   |.ref n=>(match S1[n]? with
    |some (.lst xs)=>if bz S.length xs=true then .ok (.lst xs) (S1.take S.length) else .ok p S1
    |_=>.ok p S1)
   |_=>.ok p S1)
 else .ok p S1
open Classical in
noncomputable def jN(S S1:aa)(c:Str):ac PV:=if oR S S1/\S.length<=S1.length then .exn c (S1.take S.length) else .exn c S1
noncomputable def af(D:List fy)(wf:Nat):Nat->Nat->List PV->aa->ac PV
 |0,_,_,_=>.bad
 |n+1,f,args,S=>match D[f]? with
  |some d=>if args.length=d.np then
    (match ar (af D wf n) wf d.body (args.map some++List.replicate (d.nl-d.np) none) S with
     |.ok (.ret p) S1=>bX S S1 p
     |.ok (.next _) S1=>bX S S1 .non
     |.ok _ _=>.bad
     |.exn c S1=>jN S S1 c
     |.bad=>.bad) else .bad
  |none=>.bad
end Q
namespace Q
open PySem PySem.Spec PyProof.Rows L2
noncomputable def RV(K:PySem.W.Frag)(H:Hp)(mu:List Addr)(p:PV)(u:Value):Prop:=∃v,RelV v u/\ak K H mu p v
noncomputable def cf(K:PySem.W.Frag)(H:Hp)(mu:List Addr)(ps:List PV)(us:List Value):Prop:=∃vs,az vs us/\ai K H mu ps vs
noncomputable def RB(H:Hp)(mu:List Addr)(a b:Bool):Prop:=a=b
theorem Step.rv{K:PySem.W.Frag}{H H':Hp}{mu mu':List Addr}(s:Step H mu H' mu'){p:PV}{u:Value}(h:RV K H mu p u):RV K H' mu' p u:=let ⟨v,a,b⟩:=h;⟨v,a,s.rep b⟩
theorem Step.rvs{K:PySem.W.Frag}{H H':Hp}{mu mu':List Addr}(s:Step H mu H' mu'){p:List PV}{u:List Value}(h:cf K H mu p u):cf K H' mu' p u:=let ⟨v,a,b⟩:=h;⟨v,a,s.reps b⟩
noncomputable def aH{α β:Type}(X:Cx)(pins:List (Addr×Obj))(sg:L2.St)(H:Hp)(mu:List Addr)(rel:Hp->List Addr->α->β->Prop)(r:ac α)(Q:β->Shared->Prop):Prop:=
 match r with
 |.ok a S'=>∀b H' mu' s',Inv X pins sg H' s'->rel H' mu' a b->ap X.K H' mu' S'->Step H mu H' mu'->Q b s'
 |_=>False
section
variable{X:Cx}{pins:List (Addr×Obj)}{sg:L2.St}{H H1:Hp}{mu mu1:List Addr}{α β γ δ:Type}{rel:Hp->List Addr->α->β->Prop}{rel':Hp->List Addr->γ->δ->Prop}
theorem aH.step{r:ac α}{Q:β->Shared->Prop}(st:Step H mu H1 mu1)(h:aH X pins sg H mu rel r Q):aH X pins sg H1 mu1 rel r Q:=by
 cases r with
 |ok a S=>exact fun b H' mu' s' I r m t=>h b H' mu' s' I r m (st.trans t)
 |exn c S=>exact h
 |bad=>exact h
theorem aH.bind{r:ac α}{k:α->aa->ac γ}{Q:δ->Shared->Prop}{R:β->Shared->Prop}(h:aH X pins sg H mu rel' (r.bind k) Q)
  (go:∀a S1 b H1 mu1 s1,Inv X pins sg H1 s1->rel H1 mu1 a b->ap X.K H1 mu1 S1->Step H mu H1 mu1->aH X pins sg H1 mu1 rel' (k a S1) Q->R b s1):aH X pins sg H mu rel r R:=by
 cases r with
 |ok a S=>exact fun b H' mu' s' I r m t=>go a S b H' mu' s' I r m t (h.step t)
 |exn c S=>exact h
 |bad=>exact h
theorem aH.use{a:α}{S:aa}{Q:β->Shared->Prop}(h:aH X pins sg H mu rel (.ok a S) Q){b:β}{H':Hp}{mu':List Addr}{s':Shared}(I:Inv X pins sg H' s')(r:rel H' mu' a b)(m:ap X.K H' mu' S)(t:Step H mu H' mu'):Q b s':=h b H' mu' s' I r m t
end
noncomputable abbrev Mo(X:Cx):Model:=model X.prog X.w
noncomputable def DE(X:Cx)(e:Expr)(f:Ro->aa->ac PV):Prop:=
 ∀(pins:List (Addr×Obj))(s:Shared)(sg:L2.St)(H:Hp)(mu:List Addr)(ro:Ro)(S:aa)(Q:Value->Shared->Prop),Inv X pins sg H s->ap X.K H mu S->bd X.K H mu ro sg ->
  aH X pins sg H mu (RV X.K) (f ro S) Q->wpAny (Mo X) X.A (eval e X.env) Q X.xe s
noncomputable def DT(X:Cx)(e:Expr)(f:Ro->aa->ac Bool):Prop:=
 ∀(pins:List (Addr×Obj))(s:Shared)(sg:L2.St)(H:Hp)(mu:List Addr)(ro:Ro)(S:aa)(Q:Bool->Shared->Prop),Inv X pins sg H s->ap X.K H mu S->bd X.K H mu ro sg ->
  aH X pins sg H mu RB (f ro S) Q->wpAny (Mo X) X.A (isTrue e X.env (eval e X.env)) Q X.xe s
noncomputable def DA(X:Cx)(es:List Expr)(f:Ro->aa->ac (List PV)):Prop:=
 ∀(pos:Pos)(pins:List (Addr×Obj))(s:Shared)(sg:L2.St)(H:Hp)(mu:List Addr)(ro:Ro)(S:aa)(Q:List Value->Shared->Prop),Inv X pins sg H s->ap X.K H mu S->bd X.K H mu ro sg ->
  aH X pins sg H mu (cf X.K) (f ro S) Q->wpAny (Mo X) X.A (spliced (backTo pos (starEach es X.env))) Q X.xe s
noncomputable def bg(f:Ro->aa->ac PV):Ro->aa->ac Bool:=fun ro S=>(f ro S).bind fun x S1=>match aJ S1 x with|some b=>.ok b S1|none=>.bad
section
variable{X:Cx}{a b c:Expr}{f g h:Ro->aa->ac PV}{pos:Pos}
theorem FR{i:Nat}{x:Str}(hN:X.N[i]?=some x)(hv:nA X.env.scope x)(hd:(x==("__debug__":Str))=false)(hcd:(x==("__classdict__":Str))=false) :
  DE X (.Name x pos) (fun ro S=>match ro[i]? with|some (some p)=>.ok p S|_=>.bad):=by
 intro pins s sg H mu ro S Q I m e q
 try dsimp only at q
 cases h1:ro[i]? with
 |none=>rw[h1]at q;exact q.elim
 |some o=>
  cases o with
  |none=>rw[h1]at q;exact q.elim
  |some p=>
   rw[h1]at q;obtain⟨v,h2,h3⟩:=e.val i p h1;exact bh (Eu (pos:=pos) hN hv hd hcd pins s sg H (fun w H'=>w=v/\H'=H) I ⟨v,h2,rfl,rfl⟩) fun u s' ⟨w,H',I',r,e1,e2⟩=>by
    subst e1;subst e2;exact q.use I' ⟨_,r,h3⟩ m (Step.refl _ _)
theorem oS{e:Expr}{t:TE}{p:PV}(hp:PE X e t)(ht:∀sg H,t sg H fun v H'=>H'=H/\∀mu,ak X.K H mu p v):DE X e (fun _ S=>.ok p S):=by
 intro pins s sg H mu ro S Q I m e q
 try dsimp only at q
 exact bh (hp pins s sg H _ I (ht sg H)) fun u s' ⟨w,H',I',r,e1,e2⟩=>by
  subst e1;exact q.use I' ⟨_,r,e2 mu⟩ m (Step.refl _ _)
theorem zy{i:Int}{j}:DE X (.Constant (.int i) j pos) (fun _ S=>.ok (.int i) S):=oS yL fun _ _=>⟨rfl,fun _=>by simp only[ak]⟩
theorem zz{i:Bool}{j}:DE X (.Constant (.bool i) j pos) (fun _ S=>.ok (.bl i) S):=oS Ev fun _ _=>⟨rfl,fun _=>by simp only[ak]⟩
theorem FS {j}:DE X (.Constant .none j pos) (fun _ S=>.ok .non S):=oS Ew fun _ _=>⟨rfl,fun _=>by simp only[ak]⟩
theorem FT{i:Str}{j}:DE X (.Constant (.str i) j pos) (fun _ S=>.ok (.str i) S):=oS yM fun _ _=>⟨rfl,fun _=>by simp only[ak]⟩
noncomputable def jO(X:Cx)(f:Value->Value->Sem Value)(k:aa->PV->PV->ac PV):Prop:=
 ∀(pins:List (Addr×Obj))(s:Shared)(sg:L2.St)(H:Hp)(mu:List Addr)(S:aa)(x y:PV)(u w:Value)(Q:Value->Shared->Prop),Inv X pins sg H s->ap X.K H mu S->RV X.K H mu x u->RV X.K H mu y w ->
  aH X pins sg H mu (RV X.K) (k S x y) Q->wpAny (Mo X) X.A (f u w) Q X.xe s
theorem two{k:aa->PV->PV->ac PV}{fo:Value->Value->Sem Value}(ha:DE X a f)(hb:DE X b g)(ho:jO X fo k)
  {pins:List (Addr×Obj)}{s:Shared}{sg:L2.St}{H:Hp}{mu:List Addr}{ro:Ro}{S:aa}{Q:Value->Shared->Prop}(I:Inv X pins sg H s) (m:ap X.K H mu S) (e:bd X.K H mu ro sg)
  (q:aH X pins sg H mu (RV X.K) ((f ro S).bind fun x S1=>(g ro S1).bind fun y S2=>k S2 x y) Q) :
  wpAny (Mo X) X.A (eval a X.env) (fun v s₁=>wpAny (Mo X) X.A (eval b X.env) (fun u s₂=>wpAny (Mo X) X.A (fo v u) Q X.xe s₂) X.xe s₁) X.xe s:=by
 refine ha pins s sg H mu ro S _ I m e (q.bind fun x S1 u H1 mu1 s1 I1 r1 m1 t1 q1=>?_);refine hb pins s1 sg H1 mu1 ro S1 _ I1 m1 (t1.env e) (q1.bind fun y S2 w H2 mu2 s2 I2 r2 m2 t2 q2=>?_);exact ho pins s2 sg H2 mu2 S2 x y u w Q I2 m2 (t2.rv r1) r2 q2
theorem FU{k:aa->PV->PV->ac PV}{op:Operator}(ha:DE X a f)(hb:DE X b g)(ho:jO X (binaryOp op) k) :
  DE X (.BinOp a op b pos) (fun ro S=>(f ro S).bind fun x S1=>(g ro S1).bind fun y S2=>k S2 x y):=by
 intro pins s sg H mu ro S Q I m e q
 try dsimp only at q
 exact wpAny_BinOp (two ha hb ho I m e q)
theorem FV{k:aa->PV->PV->ac PV}{op:CmpOp}(ha:DE X a f)(hb:DE X b g)(ho:jO X (compareOp op) k)(hm:behindInMarks op b=false) :
  DE X (.Compare a [op] [b] pos) (fun ro S=>(f ro S).bind fun x S1=>(g ro S1).bind fun y S2=>k S2 x y):=by
 intro pins s sg H mu ro S Q I m e q
 try dsimp only at q
 exact wpAny_Compare1 (two ha hb ho I m e q) hm
theorem qz{pins:List (Addr×Obj)}{s:Shared}{sg:L2.St}{H:Hp}{mu:List Addr}{S:aa}{x:PV}{u:Value}{b:Bool}{Q:Bool->Shared->Prop}(I:Inv X pins sg H s)(m:ap X.K H mu S)(r:RV X.K H mu x u)(ht:aJ S x=some b)
  (q:∀s',Inv X pins sg H s'->Q b s'):wpAny (Mo X) X.A (truthy u) Q X.xe s:=by
 obtain⟨v,rv,rp⟩:=r;refine bh (EM (X:=X) pins s sg H v u (fun c H'=>c=b/\H'=H) I rv ⟨b,?_,rfl,rfl⟩) fun c s' ⟨H',I',e1,e2⟩=>by
  subst e1;subst e2;exact q s' I'
 have hl:sizeLine=16777216:=cy;cases x with
 |non=>simp only[ak]at rp;subst rp;simp only[aJ,bT]at ht;exact ht.symm
 |bl c=>simp only[ak]at rp;subst rp;simp only[aJ,bT]at ht;exact ht.symm
 |int c=>simp only[ak]at rp;subst rp;simp only[aJ,bT]at ht;exact ht.symm
 |str c=>
  simp only[ak]at rp;subst rp;simp only[aJ]at ht;split at ht
  ·rename_i hc;exact⟨by rw[hl];exact hc,(eO ht).symm⟩
  ·cases ht
 |tup xs=>
  simp only[ak]at rp;obtain⟨a,vs,rfl,h1,h2⟩:=rp;simp only[aJ,bT]at ht;have hlen:=h2.length;refine .inr (.inl ⟨vs,h1,?_⟩);rw[←ht];cases xs<;>cases vs<;>simp at hlen ⊢
 |lst xs=>
  simp only[ak]at rp;obtain⟨a,vs,rfl,h1,h2⟩:=rp;simp only[aJ,bT]at ht;have hlen:=h2.length;refine .inl ⟨vs,h1.sq,?_⟩;rw[←ht];cases xs<;>cases vs<;>simp at hlen ⊢
 |ref n=>
  simp only[ak]at rp;obtain⟨a,rfl,h1⟩:=rp;simp only[aJ]at ht;cases hS:S[n]? with
  |none=>rw[hS]at ht;cases ht
  |some o=>
   cases o with
   |lst xs=>
    rw[hS]at ht;simp only[bT]at ht;obtain⟨vs,h2,h3⟩:=m.obj n a _ h1 hS;have hlen:=h3.length;refine .inl ⟨vs,br.of h2,?_⟩;rw[←ht];cases xs<;>cases vs<;>simp at hlen ⊢
   |dct kvs=>
    rw[hS]at ht;simp only[bT]at ht;obtain⟨ws,h2,h3,h4⟩:=m.obj n a _ h1 hS;have hlen:ws.length=kvs.length:=by rw[←aw (f:=(·.1)),h3,aw]
    refine .inr (.inr ⟨_,h2,?_⟩);rw[←ht];cases kvs<;>cases ws<;>simp at hlen ⊢
   |ins c fs=>rw[hS]at ht;cases ht
theorem FW(ha:DE X a f)(he:∀whole,isTrue a X.env whole=(do let v ←whole;standAt a.pos;holding [v] (truthy v))):DT X a (bg f):=by
 intro pins s sg H mu ro S Q I m e q
 try dsimp only at q
 refine isTrue_plain (ha pins s sg H mu ro S _ I m e (aH.bind q fun x S1 u H1 mu1 s1 I1 r1 m1 t1 q1=>?_)) (he _);cases ht:aJ S1 x with
 |none=>rw[ht]at q1;exact q1.elim
 |some b=>
  rw[ht]at q1;exact qz I1 m1 r1 ht fun s' I'=>q1.use I' rfl m1 (Step.refl _ _)
theorem FX(ha:DE X a f):DE X (.UnaryOp .Not a pos) (fun ro S=>(f ro S).bind fun x S1=>match aJ S1 x with|some b=>.ok (.bl (!b)) S1|none=>.bad):=by
 intro pins s sg H mu ro S Q I m e q
 try dsimp only at q
 refine UnaryOp_ (ha pins s sg H mu ro S _ I m e (q.bind fun x S1 u H1 mu1 s1 I1 r1 m1 t1 q1=>?_));cases ht:aJ S1 x with
 |none=>rw[ht]at q1;exact q1.elim
 |some b=>
  rw[ht]at q1;exact not_of (qz I1 m1 r1 ht fun s' I'=>q1.use I' ⟨.bl (!b),rfl,by simp only[ak]⟩ m1 (Step.refl _ _))
theorem FY(ha:DT X a (bg f)):DT X (.UnaryOp .Not a pos) (bg (fun ro S=>(f ro S).bind fun x S1=>match aJ S1 x with|some b=>.ok (.bl (!b)) S1|none=>.bad)):=by
 intro pins s sg H mu ro S Q I m e q
 try dsimp only at q
 refine isTrue_not (ha pins s sg H mu ro S _ I m e ?_);unfold bg at q ⊢;dsimp only at q;cases hf:f ro S with
 |exn c S'=>rw[hf]at q;exact q
 |bad=>rw[hf]at q;exact q
 |ok x S1=>
  rw[hf]at q;simp only[ac.bind_ok]at q ⊢;cases ht:aJ S1 x with
  |none=>rw[ht]at q;exact q
  |some b=>
   rw[ht]at q;simp only[ac.bind_ok,aJ]at q ⊢;intro b' H' mu' s' I' r m' t;cases r;exact q.use I' rfl m' t
theorem zF(ha:DE X a f):DE X (.UnaryOp .USub a pos) (fun ro S=>(f ro S).bind fun x S1=>match x with|.int i=>.ok (.int (-i)) S1|_=>.bad):=by
 intro pins s sg H mu ro S Q I m e q
 try dsimp only at q
 refine UnaryOp_ (ha pins s sg H mu ro S _ I m e (q.bind fun x S1 u H1 mu1 s1 I1 r1 m1 t1 q1=>?_));cases x with
 |int i=>
  obtain⟨v,rv,rp⟩:=r1;simp only[ak]at rp;subst rp;exact bh (EJ (X:=X) pins s1 sg H1 _ u (fun c H'=>c=.int (-i)/\H'=H1) I1 rv ⟨i,rfl,rfl,rfl⟩) fun c s' ⟨w,H',I',r',e1,e2⟩=>by
   subst e1;subst e2;exact q1.use I' ⟨_,r',by simp only[ak]⟩ m1 (Step.refl _ _)
 |_=>exact q1.elim
variable{rest:List Expr}
theorem FZ(ha:DE X a f)(hb:DE X (.BoolOp .And (b::rest) pos) g) :
  DE X (.BoolOp .And (a::b::rest) pos) (fun ro S=>(f ro S).bind fun x S1=>match aJ S1 x with|some true=>g ro S1|some false=>.ok x S1|none=>.bad):=by
 intro pins s sg H mu ro S Q I m e q
 try dsimp only at q
 refine BoolOp_and (ha pins s sg H mu ro S _ I m e (q.bind fun x S1 u H1 mu1 s1 I1 r1 m1 t1 q1=>?_));cases ht:aJ S1 x with
 |none=>rw[ht]at q1;exact q1.elim
 |some b=>
  rw[ht]at q1;refine qz I1 m1 r1 ht fun s' I'=>?_;cases b with
  |true=>exact hb pins s' sg H1 mu1 ro S1 Q I' m1 (t1.env e) q1
  |false=>exact q1.use I' r1 m1 (Step.refl _ _)
theorem F0(ha:DE X a f)(hb:DE X (.BoolOp .Or (b::rest) pos) g) :
  DE X (.BoolOp .Or (a::b::rest) pos) (fun ro S=>(f ro S).bind fun x S1=>match aJ S1 x with|some true=>.ok x S1|some false=>g ro S1|none=>.bad):=by
 intro pins s sg H mu ro S Q I m e q
 try dsimp only at q
 refine BoolOp_or (ha pins s sg H mu ro S _ I m e (q.bind fun x S1 u H1 mu1 s1 I1 r1 m1 t1 q1=>?_));cases ht:aJ S1 x with
 |none=>rw[ht]at q1;exact q1.elim
 |some b=>
  rw[ht]at q1;refine qz I1 m1 r1 ht fun s' I'=>?_;cases b with
  |false=>exact hb pins s' sg H1 mu1 ro S1 Q I' m1 (t1.env e) q1
  |true=>exact q1.use I' r1 m1 (Step.refl _ _)
theorem zG {op} (ha:DE X a f):DE X (.BoolOp op [a] pos) f:=fun pins s sg H mu ro S Q I m e q=>BoolOp_one (ha pins s sg H mu ro S Q I m e q)
noncomputable def DW(X:Cx)(e:Expr)(f:Ro->aa->ac Bool):Prop:=
 ∀(whole:Sem Value)(pins:List (Addr×Obj))(s:Shared)(sg:L2.St)(H:Hp)(mu:List Addr)(ro:Ro)(S:aa)(Q:Bool->Shared->Prop),Inv X pins sg H s->ap X.K H mu S->bd X.K H mu ro sg ->
  aH X pins sg H mu RB (f ro S) Q->wpAny (Mo X) X.A (isTrue e X.env whole) Q X.xe s
theorem DW.dt{e:Expr}{f:Ro->aa->ac Bool}(h:DW X e f):DT X e f:=h _
theorem t_{pins:List (Addr×Obj)}{sg:L2.St}{H:Hp}{mu:List Addr}{r:ac PV}{k:PV->aa->ac PV}{Q R:Bool->Shared->Prop}
  (q:aH X pins sg H mu RB ((r.bind k).bind fun x S1=>match aJ S1 x with|some b=>.ok b S1|none=>.bad) Q)
  (go:∀x S1 b,r=.ok x S1->aJ S1 x=some b->aH X pins sg H mu RB ((k x S1).bind fun x S1=>match aJ S1 x with|some b=>.ok b S1|none=>.bad) Q->aH X pins sg H mu RB (.ok b S1) R)
  (hk:∀x S1,aJ S1 x=none->k x S1=.bad):aH X pins sg H mu RB (r.bind fun x S1=>match aJ S1 x with|some b=>.ok b S1|none=>.bad) R:=by
 cases r with
 |exn c S'=>exact q
 |bad=>exact q
 |ok x S1=>
  simp only[ac.bind_ok]at q ⊢;cases ht:aJ S1 x with
  |none=>rw[hk x S1 ht]at q;exact q
  |some b=>exact go x S1 b rfl ht q
theorem F3(ha:DT X a (bg f))(hb:DW X (.BoolOp .And (b::rest) pos) (bg g)) :
  DW X (.BoolOp .And (a::b::rest) pos) (bg (fun ro S=>(f ro S).bind fun x S1=>match aJ S1 x with|some true=>g ro S1|some false=>.ok x S1|none=>.bad)):=by
 intro wh pins s sg H mu ro S Q I m e q
 try dsimp only at q
 refine isTrue_and (ha pins s sg H mu ro S _ I m e (t_ q (fun x S1 k hr ht q1=>?_) fun x S1 ht=>by simp only[ht]));intro b' H' mu' s' I' r m' t;cases r;rw[ht]at q1;cases k with
 |true=>exact hb wh pins s' sg H' mu' ro S1 Q I' m' (t.env e) (q1.step t)
 |false=>
  simp only[ac.bind_ok,ht]at q1;exact q1.use I' rfl m' t
theorem F4(ha:DT X a (bg f))(hb:DW X (.BoolOp .Or (b::rest) pos) (bg g)) :
  DW X (.BoolOp .Or (a::b::rest) pos) (bg (fun ro S=>(f ro S).bind fun x S1=>match aJ S1 x with|some true=>.ok x S1|some false=>g ro S1|none=>.bad)):=by
 intro wh pins s sg H mu ro S Q I m e q
 try dsimp only at q
 refine isTrue_or (ha pins s sg H mu ro S _ I m e (t_ q (fun x S1 k hr ht q1=>?_) fun x S1 ht=>by simp only[ht]));intro b' H' mu' s' I' r m' t;cases r;rw[ht]at q1;cases k with
 |false=>exact hb wh pins s' sg H' mu' ro S1 Q I' m' (t.env e) (q1.step t)
 |true=>
  simp only[ac.bind_ok,ht]at q1;exact q1.use I' rfl m' t
theorem F5(ha:DT X a (bg f)):DW X (.BoolOp .And [a] pos) (bg f):=by
 intro wh pins s sg H mu ro S Q I m e q
 try dsimp only at q
 refine isTrue_and (bh (ha pins s sg H mu ro S _ I m e q) fun c s1 h=>?_);cases c with
 |true=>exact isTrue_and_nil h
 |false=>exact h
theorem F6(ha:DT X a (bg f)):DW X (.BoolOp .Or [a] pos) (bg f):=by
 intro wh pins s sg H mu ro S Q I m e q
 try dsimp only at q
 refine isTrue_or (bh (ha pins s sg H mu ro S _ I m e q) fun c s1 h=>?_);cases c with
 |false=>exact isTrue_or_nil h
 |true=>exact h
theorem F7(hc:DT X c (bg h))(ha:DE X a f)(hb:DE X b g) :
  DE X (.IfExp c a b pos) (fun ro S=>(h ro S).bind fun x S1=>match aJ S1 x with|some true=>f ro S1|some false=>g ro S1|none=>.bad):=by
 intro pins s sg H mu ro S Q I m e q
 try dsimp only at q
 refine wpAny_IfExp (hc pins s sg H mu ro S _ I m e ?_);unfold bg;cases hh:h ro S with
 |exn c' S'=>rw[hh]at q;exact q
 |bad=>rw[hh]at q;exact q
 |ok x S1=>
  rw[hh]at q;simp only[ac.bind_ok]at q ⊢;cases ht:aJ S1 x with
  |none=>rw[ht]at q;exact q
  |some k=>
   rw[ht]at q;intro b' H' mu' s' I' r m' t;cases r;cases k with
   |true=>exact ha pins s' sg H' mu' ro S1 Q I' m' (t.env e) (q.step t)
   |false=>exact hb pins s' sg H' mu' ro S1 Q I' m' (t.env e) (q.step t)
theorem F8:DA X [] (fun _ S=>.ok [] S):=fun _ pins s sg H mu ro S Q I m e q=>kj (q.use I ⟨[],.nil,ai.nil⟩ m (Step.refl _ _))
theorem F9{es:List Expr}{gs:Ro->aa->ac (List PV)}(ha:DE X a f)(hr:DA X es gs)(hs:starEach (a::es) X.env=(false,eval a X.env)::starEach es X.env) :
  DA X (a::es) (fun ro S=>(f ro S).bind fun p S1=>(gs ro S1).bind fun ps S2=>.ok (p::ps) S2):=by
 intro pos pins s sg H mu ro S Q I m e q
 try dsimp only at q
 rw[hs];show wpAny _ _ (spliced ((false,eval a X.env)::backTo pos (starEach es X.env))) _ _ s;refine gQ (ha pins s sg H mu ro S _ I m e (q.bind fun x S1 u H1 mu1 s1 I1 r1 m1 t1 q1=>?_));refine hr pos pins s1 sg H1 mu1 ro S1 _ I1 m1 (t1.env e) (q1.bind fun ys S2 w H2 mu2 s2 I2 r2 m2 t2 q2=>?_);obtain⟨v,h1,h2⟩:=t2.rv r1;obtain⟨vs,h3,h4⟩:=r2;exact q2.use I2 ⟨v::vs,.cons h1 h3,ai.cons h2 h4⟩ m2 (Step.refl _ _)
theorem zH{es:List Expr}{x1} {gs:Ro->aa->ac (List PV)}(ha:DA X es gs):DE X (.Tuple es x1 pos) (fun ro S=>(gs ro S).bind fun ps S1=>if ps.length<=aj then .ok (.tup ps) S1 else .bad):=by
 intro pins s sg H mu ro S Q I m e q
 try dsimp only at q
 refine wpAny_Tuple_spliced (ha pos pins s sg H mu ro S _ I m e (q.bind fun ps S1 us H1 mu1 s1 I1 r1 m1 t1 q1=>?_));obtain⟨vs,h1,h2⟩:=r1;by_cases hz:ps.length<=aj
 ·rw[ag hz]at q1;have z:vs.length<=sizeLine:=by rw[cy,←h2.length];exact hz
  refine⟨by rw[←h1.length];exact z,?_⟩;have hf:H1 s1.heap.objs.size=none:=I1.hok.fresh (aF _);have I2:Inv X pins sg (ay H1 s1.heap.objs.size (.tup vs)) _:=I1.laid (t':=s1.toks) (h':=s1.heap.push { cls:=.type "tuple",data:=.seq us.toArray }) (fun b u e=>bb _ e) (aF _) ⟨z,us,h1,⟨_,ci _ rfl,rfl,_,rfl⟩⟩;exact q1.use I2 ⟨.ref s1.heap.objs.size,rfl,by
   simp only[ak];exact⟨_,vs,rfl,bv.of eQ,(Step.laid (mu:=mu1) hf S1).reps h2⟩⟩ (m1.laid hf) (Step.laid hf S1)
 ·rw[av hz]at q1;exact q1.elim
theorem zI{pins:List (Addr×Obj)}{s1:Shared}{sg:L2.St}{H1:Hp}{us:List Value}{vs:List V}(I1:Inv X pins sg H1 s1)(h1:az vs us)(z:vs.length<=sizeLine) :
  Inv X pins sg (ay H1 s1.heap.objs.size (.lst vs)) { s1 with heap:=s1.heap.push { cls:=.type "list",data:=.seq us.toArray } }:=
 I1.laid (t':=s1.toks) (fun b u e=>bb _ e) (aF _) ⟨z,us,0,h1,ci _ rfl⟩
theorem iU{H1:Hp}{mu1:List Addr}{S1:aa}{a:Addr}{ps:List PV}{vs:List V}(m1:ap X.K H1 mu1 S1)(hf:H1 a=none)(h2:ai X.K H1 mu1 ps vs):ak X.K (ay H1 a (.lst vs)) mu1 (.lst ps) (.ref a):=by
 simp only[ak];exact⟨a,vs,rfl,.inl ⟨eQ,m1.out hf⟩,(Step.laid (mu:=mu1) hf S1).reps h2⟩
theorem F_{es:List Expr}{gs:Ro->aa->ac (List PV)}(ha:DA X es gs):DE X (.List es pos) (fun ro S=>(gs ro S).bind fun ps S1=>if ps.length<=aj then .ok (.lst ps) S1 else .bad):=by
 intro pins s sg H mu ro S Q I m e q
 try dsimp only at q
 refine wpAny_List_spliced (ha pos pins s sg H mu ro S _ I m e (q.bind fun ps S1 us H1 mu1 s1 I1 r1 m1 t1 q1=>?_));obtain⟨vs,h1,h2⟩:=r1;by_cases hz:ps.length<=aj
 ·rw[ag hz]at q1;have z:vs.length<=sizeLine:=by rw[cy,←h2.length];exact hz
  refine⟨by rw[←h1.length];exact z,?_⟩;have hf:H1 s1.heap.objs.size=none:=I1.hok.fresh (aF _);exact q1.use (zI I1 h1 z) ⟨.ref s1.heap.objs.size,rfl,iU m1 hf h2⟩ (m1.laid hf) (Step.laid hf S1)
 ·rw[av hz]at q1;exact q1.elim
theorem Ga{es:List Expr}{gs:Ro->aa->ac (List PV)}(ha:DA X es gs):DE X (.List es pos) (fun ro S=>(gs ro S).bind fun ps S1=>if ps.length<=aj then .ok (.ref S1.length) (S1++[.lst ps]) else .bad):=by
 intro pins s sg H mu ro S Q I m e q
 try dsimp only at q
 refine wpAny_List_spliced (ha pos pins s sg H mu ro S _ I m e (q.bind fun ps S1 us H1 mu1 s1 I1 r1 m1 t1 q1=>?_));obtain⟨vs,h1,h2⟩:=r1;by_cases hz:ps.length<=aj
 ·rw[ag hz]at q1;have z:vs.length<=sizeLine:=by rw[cy,←h2.length];exact hz
  refine⟨by rw[←h1.length];exact z,?_⟩;have hf:H1 s1.heap.objs.size=none:=I1.hok.fresh (aF _);exact q1.use (zI I1 h1 z) ⟨.ref s1.heap.objs.size,rfl,by
   simp only[ak];exact⟨_,rfl,by rw[←m1.len,fP (aF _),wV];rfl⟩⟩ (m1.grow hf h2) (Step.grow hf)
 ·rw[av hz]at q1;exact q1.elim
end
end Q
namespace Q
open PySem PySem.Spec PyProof.Rows L2
theorem ub:fillsNumberSlot (.type "tuple") "mul"=pure false:=
 PySem.fillsNumberSlot_seq (id:="tuple.__mul__") (r:=some (.builtin "tuple.__rmul__")) rW.lookup (by decide +kernel) F.slot_tuple_rmul.lookup (by decide +kernel)
theorem uc:seqRepeat? (.type "tuple")=pure (some (.builtin "tuple.__mul__")):=by
 unfold seqRepeat?;rw[PySem.seqSlot_of (T:="tuple") (name:="__mul__") (id:="tuple.__mul__") rW.lookup (by decide +kernel),PySem.seqSlot_of (T:="tuple") (name:="__rmul__") (id:="tuple.__rmul__") F.slot_tuple_rmul.lookup (by decide +kernel)];rfl
theorem ud(a:Int)(t:Tok)(l:Addr)(items:Array Value)(n:Nat)(d:Option Addr)(sl:Array (Option Value)) :
  Meets (Builtin.«int.__rmul__» ⟨[.int a t,.ref l],[]⟩) (fun _ R s=>s.heap.get? l=some { cls:=.type "tuple",dict:=d,data:=.seq items n,slots:=sl }/\R (.ok (.ret Value.notImplemented)) s):=
 .of_wp fun prog w A R s h=>by obtain⟨hp,g,d,tk,os⟩:=s;obtain⟨hl,h⟩:=h;wp_walk;exact⟨_,rfl,h⟩
theorem Gb(l:Addr)(items:Array Value)(n:Nat)(d:Option Addr)(sl:Array (Option Value))(u:Tok) :
  Meets (Builtin.«tuple.__mul__» ⟨[.ref l,.int 1 u],[]⟩) (fun _ R s=>s.heap.get? l=some { cls:=.type "tuple",dict:=d,data:=.seq items n,slots:=sl }/\R (.ok (.ret (.ref l))) s):=
 .of_wp fun prog w A R s h=>by
  obtain⟨hp,g,d,tk,os⟩:=s;obtain⟨hl,h⟩:=h
  wp_walk
  exact⟨_,rfl,h⟩
theorem Gc(l:Addr)(items:Array Value)(n:Nat)(d:Option Addr)(sl:Array (Option Value))(u:Tok)(c1:¬(items.isEmpty||(0:Int)==1)=true) :
  Meets (Builtin.«tuple.__mul__» ⟨[.ref l,.int 0 u],[]⟩) (fun _ R s=>s.heap.get? l=some { cls:=.type "tuple",dict:=d,data:=.seq items n,slots:=sl }/\R (.ok (.ret (.ref s.heap.objs.size))) { s with heap:=s.heap.push { cls:=.type "tuple",data:=.seq #[] } }):=
 .of_wp fun prog w A R s h=>by
  obtain⟨hp,g,d,tk,os⟩:=s;obtain⟨hl,h⟩:=h
  wp_walk
  rw[av c1]
  wp_walk
  exact⟨_,rfl,h⟩
noncomputable def oT(k:Nat)(items:Array Value):Array Value:=List.foldl (fun x1 x2=>x1++x2) #[] (List.replicate k items)
theorem Gd(k:Nat)(items acc:Array Value):List.foldl (fun x1 x2=>x1++x2) acc (List.replicate k items)=acc++(List.replicate k items.toList).flatten.toArray:=by
 induction k generalizing acc with
 |zero=>simp
 |succ k ih=>
  rw[List.replicate_succ,List.foldl_cons,ih,List.replicate_succ,List.flatten_cons];apply Array.ext';simp
theorem zJ(k:Nat)(items:List Value):oT k items.toArray=(List.replicate k items).flatten.toArray:=by
 unfold oT;rw[Gd];simp
theorem Ge(l:Addr)(items:Array Value)(n:Nat)(d:Option Addr)(sl:Array (Option Value))(x:Int)(u:Tok)(c0:¬(decide (x < -2 ^ 63)||decide (x>=2 ^ 63))=true)(c1:¬(items.isEmpty||x==1)=true)
  (c2:¬(decide (x<=0)||items.isEmpty)=true) (c3:¬(items.size:Int)*x>(2 ^ 63-1)/8) (c4:¬Builtin.Tuple.tupleTooMany ((items.size:Int)*x)=true) (hsz:(oT x.toNat items).size<=sizeLine) :
  Meets (Builtin.«tuple.__mul__» ⟨[.ref l,.int x u],[]⟩) (fun _ R s=>s.heap.get? l=some { cls:=.type "tuple",dict:=d,data:=.seq items n,slots:=sl }/\R (.ok (.ret (.ref s.heap.objs.size))) { s with heap:=s.heap.push { cls:=.type "tuple",data:=.seq (oT x.toNat items) } }):=
 .of_wp fun prog w A R s h=>by
  obtain⟨hp,g,d,tk,os⟩:=s;obtain⟨hl,h⟩:=h;unfold oT at hsz h
  wp_walk
  rw[av c0]
  wp_walk
  rw[av c3]
  wp_walk
  exact⟨_,rfl,h⟩
section
variable{prog:Program}{w:World}{A:Around}{E:Value->Shared->Prop}{s:Shared}{t:Addr}{vs:List Value}{x:Int}{u:Tok}{Q:Value->Shared->Prop}
theorem Gf(ht:IsTup s.heap t vs.toArray)(h:Q (.ref t) s):wpAny (model prog w) A (binaryOp .Mult (.ref t) (.int 1 u)) Q E s:=by
 obtain⟨⟨cls,dd,data,sl⟩,ho,hc,n,hd⟩:=id ht;simp only at hc hd;subst hc hd;exact C9 (T:="tuple") (U:="int") (by decide) ⟨_,ho,rfl⟩ (fun s'=>typeIs_int s' 1 u) ub F.fills_int_mul pX uc C_.lookup
  (iB pX (typeIs_int s 1 u) Da (Db _ _) (ud 1 u t vs.toArray n dd sl)
   ⟨ho,rfl,⟨_,ho,rfl⟩,iB rW ⟨_,ho,rfl⟩ Dc (Dd _ _) (Gb t vs.toArray n dd sl u) ⟨ho,h⟩⟩)
theorem Gg(ht:IsTup s.heap t vs.toArray)(h0:0<vs.length)(h:Q (.ref s.heap.objs.size) { s with heap:=s.heap.push { cls:=.type "tuple",data:=.seq #[] } }):wpAny (model prog w) A (binaryOp .Mult (.ref t) (.int 0 u)) Q E s:=by
 obtain⟨⟨cls,dd,data,sl⟩,ho,hc,n,hd⟩:=id ht;simp only at hc hd;subst hc hd;have e0:vs.toArray.isEmpty=false:=by cases vs with|nil=>simp at h0|cons a b=>rfl
 exact C9 (T:="tuple") (U:="int") (by decide) ⟨_,ho,rfl⟩ (fun s'=>typeIs_int s' _ u) ub F.fills_int_mul pX uc C_.lookup
  (iB pX (typeIs_int s _ u) Da (Db _ _) (ud _ u t vs.toArray n dd sl)
   ⟨ho,rfl,⟨_,ho,rfl⟩,iB rW ⟨_,ho,rfl⟩ Dc (Dd _ _) (Gc t vs.toArray n dd sl u (by rw[e0];decide)) ⟨ho,h⟩⟩)
theorem zK{α:Type}(k:Nat)(xs:List α):(List.replicate k xs).flatten.length=k*xs.length:=by simp
theorem Gh(ht:IsTup s.heap t vs.toArray)(h0:0<vs.length)(h2:2<=x)(hx:x<4611686018427387904)(hz:vs.length*x.toNat<=16777216)
  (h:Q (.ref s.heap.objs.size) { s with heap:=s.heap.push { cls:=.type "tuple",data:=.seq (List.replicate x.toNat vs).flatten.toArray } }):wpAny (model prog w) A (binaryOp .Mult (.ref t) (.int x u)) Q E s:=by
 obtain⟨⟨cls,dd,data,sl⟩,ho,hc,n,hd⟩:=id ht;simp only at hc hd;subst hc hd;have hl:sizeLine=16777216:=cy;have e0:vs.toArray.isEmpty=false:=by cases vs with|nil=>simp at h0|cons a b=>rfl
 have es:vs.toArray.size=vs.length:=aQ ..;obtain⟨k,rfl⟩:=Int.eq_ofNat_of_zero_le (show 0<=x by omega);have hz':vs.length*k<=16777216:=by simpa using hz
 have hzi:(vs.length:Int)*(k:Int)<=16777216:=by
  have:((vs.length*k:Nat):Int)<=16777216:=by omega
  push_cast at this;exact this
 refine C9 (T:="tuple") (U:="int") (by decide) ⟨_,ho,rfl⟩ (fun s'=>typeIs_int s' _ u) ub F.fills_int_mul pX uc C_.lookup
  (iB pX (typeIs_int s _ u) Da (Db _ _) (ud _ u t vs.toArray n dd sl)
   ⟨ho,rfl,⟨_,ho,rfl⟩,iB rW ⟨_,ho,rfl⟩ Dc (Dd _ _) (Ge t vs.toArray n dd sl _ u ?_ ?_ ?_ ?_ ?_ ?_) ⟨ho,?_⟩⟩)
 ·simp;omega
 ·rw[e0];simp;omega
 ·rw[e0];simp;omega
 ·rw[es];omega
 ·rw[es];unfold Builtin.Tuple.tupleTooMany;rw[hl];simp;omega
 ·rw[zJ,aQ,zK,hl,Int.toNat_natCast,Nat.mul_comm];exact hz'
 ·rw[zJ];exact h
end
theorem ai.again{K:PySem.W.Frag}{H:Hp}{mu:List Addr}{xs:List PV}{vs:List V}(r:ai K H mu xs vs):∀k:Nat,ai K H mu (List.replicate k xs).flatten (List.replicate k vs).flatten
 |0=>by simp only[List.replicate_zero,List.flatten_nil];exact ai.nil
 |k+1=>by
  rw[List.replicate_succ,List.replicate_succ,List.flatten_cons,List.flatten_cons];exact r.append (ai.again r k)
theorem zL{vs:List V}{us:List Value}(r:az vs us):∀k:Nat,az (List.replicate k vs).flatten (List.replicate k us).flatten
 |0=>by simp only[List.replicate_zero,List.flatten_nil];exact .nil
 |k+1=>by
  rw[List.replicate_succ,List.replicate_succ,List.flatten_cons,List.flatten_cons];exact r.append (zL r k)
end Q
namespace Q
open PySem PySem.Spec PyProof.Rows L2
mutual
theorem fe:∀(x:PV)(d:Nat),aM x d=true->(aS x).canLay0=true/\(aS x).depth<=d
 |.non,_,_=>by simp[aS,PyData.canLay0,PyData.depth]
 |.bl _,_,_=>by simp[aS,PyData.canLay0,PyData.depth]
 |.int _,_,_=>by simp[aS,PyData.canLay0,PyData.depth]
 |.str x,_,h=>by simp only[aM]at h;simp[aS,PyData.canLay0,PyData.depth,h]
 |.tup xs,d+1,h=>by
  simp only[aM]at h;obtain⟨h1,h2⟩:=qA xs d h;simp[aS,PyData.canLay0,PyData.depth,h1];omega
 |.lst xs,d+1,h=>by
  simp only[aM]at h;obtain⟨h1,h2⟩:=qA xs d h;simp[aS,PyData.canLay0,PyData.depth,h1];omega
 |.tup _,0,h=>Bool.noConfusion (show false=true from h)
 |.lst _,0,h=>Bool.noConfusion (show false=true from h)
 |.ref _,_,h=>Bool.noConfusion (show false=true from h)
theorem qA:∀(xs:List PV)(d:Nat),a_ xs d=true->PyData.canLayAll0 (bD xs)=true/\PyData.depthAll (bD xs)<=d
 |[],_,_=>by simp[bD,PyData.canLayAll0,PyData.depthAll]
 |x::xs,d,h=>by
  simp only[a_,aG]at h;obtain⟨h1,h2⟩:=fe x d h.1;obtain⟨h3,h4⟩:=qA xs d h.2;simp[bD,PyData.canLayAll0,PyData.depthAll,h1,h3];omega
end
mutual
theorem oU:∀(x y:PV)(d e:Nat),aM x d=true->aM y e=true->PyData.eqv (aS x) (aS y)=b_ x y
 |.non,.non,_,_,_,_=>rfl
 |.non,.bl _,_,_,_,_=>rfl
 |.non,.int _,_,_,_,_=>rfl
 |.non,.str _,_,_,_,_=>rfl
 |.non,.tup _,_,_,_,_=>rfl
 |.non,.lst _,_,_,_,_=>rfl
 |.bl _,.non,_,_,_,_=>rfl
 |.bl _,.bl _,_,_,_,_=>rfl
 |.bl _,.int _,_,_,_,_=>rfl
 |.bl _,.str _,_,_,_,_=>rfl
 |.bl _,.tup _,_,_,_,_=>rfl
 |.bl _,.lst _,_,_,_,_=>rfl
 |.int _,.non,_,_,_,_=>rfl
 |.int _,.bl _,_,_,_,_=>rfl
 |.int _,.int _,_,_,_,_=>rfl
 |.int _,.str _,_,_,_,_=>rfl
 |.int _,.tup _,_,_,_,_=>rfl
 |.int _,.lst _,_,_,_,_=>rfl
 |.str _,.non,_,_,_,_=>rfl
 |.str _,.bl _,_,_,_,_=>rfl
 |.str _,.int _,_,_,_,_=>rfl
 |.str _,.str _,_,_,_,_=>rfl
 |.str _,.tup _,_,_,_,_=>rfl
 |.str _,.lst _,_,_,_,_=>rfl
 |.tup _,.non,_,_,_,_=>rfl
 |.tup _,.bl _,_,_,_,_=>rfl
 |.tup _,.int _,_,_,_,_=>rfl
 |.tup _,.str _,_,_,_,_=>rfl
 |.tup xs,.tup ys,d+1,e+1,h1,h2=>by
  exact ue xs ys d e h1 h2
 |.tup _,.tup _,0,_,h,_=>Bool.noConfusion (show false=true from h)
 |.tup _,.tup _,_+1,0,_,h=>Bool.noConfusion (show false=true from h)
 |.tup _,.lst _,_,_,_,_=>rfl
 |.lst _,.non,_,_,_,_=>rfl
 |.lst _,.bl _,_,_,_,_=>rfl
 |.lst _,.int _,_,_,_,_=>rfl
 |.lst _,.str _,_,_,_,_=>rfl
 |.lst _,.tup _,_,_,_,_=>rfl
 |.lst xs,.lst ys,d+1,e+1,h1,h2=>by
  exact ue xs ys d e h1 h2
 |.lst _,.lst _,0,_,h,_=>Bool.noConfusion (show false=true from h)
 |.lst _,.lst _,_+1,0,_,h=>Bool.noConfusion (show false=true from h)
 |.ref _,_,_,_,h,_=>Bool.noConfusion (show false=true from h)
 |.non,.ref _,_,_,_,h=>Bool.noConfusion (show false=true from h)
 |.bl _,.ref _,_,_,_,h=>Bool.noConfusion (show false=true from h)
 |.int _,.ref _,_,_,_,h=>Bool.noConfusion (show false=true from h)
 |.str _,.ref _,_,_,_,h=>Bool.noConfusion (show false=true from h)
 |.tup _,.ref _,_,_,_,h=>Bool.noConfusion (show false=true from h)
 |.lst _,.ref _,_,_,_,h=>Bool.noConfusion (show false=true from h)
theorem ue:∀(xs ys:List PV)(d e:Nat),a_ xs d=true->a_ ys e=true->PyData.eqvAll (bD xs) (bD ys)=fU xs ys
 |[],[],_,_,_,_=>rfl
 |[],_::_,_,_,_,_=>rfl
 |_::_,[],_,_,_,_=>rfl
 |x::xs,y::ys,d,e,h1,h2=>by
  have h1:=gR.mp (show(aM x d&&a_ xs d)=true from h1);have h2:=gR.mp (show(aM y e&&a_ ys e)=true from h2);show(PyData.eqv (aS x) (aS y)&&PyData.eqvAll (bD xs) (bD ys))=(b_ x y&&fU xs ys)
  rw[oU x y d e h1.1 h2.1,ue xs ys d e h1.2 h2.2]
end
section
variable{X:Cx}{pins:List (Addr×Obj)}{sg:L2.St}{H:Hp}{mu:List Addr}{s:Shared}
mutual
theorem iV(I:Inv X pins sg H s):∀{x:PV}{d:Nat}{v:V}{u:Value},aM x d=true->ak X.K H mu x v->RelV v u->∃as,Reads s.heap u (aS x) as
 |.non,_,_,_,_,r,q=>by simp only[ak]at r;subst r;cases q;exact⟨_,by simp only[aS];exact .none⟩
 |.bl b,_,_,_,_,r,q=>by simp only[ak]at r;subst r;cases q;exact⟨_,by simp only[aS];exact .bool b⟩
 |.int i,_,_,_,_,r,q=>by simp only[ak]at r;subst r;obtain⟨t,rfl⟩:=q;exact⟨_,by simp only[aS];exact .int i t⟩
 |.str i,_,_,_,_,r,q=>by simp only[ak]at r;subst r;obtain⟨t,rfl⟩:=q;exact⟨_,by simp only[aS];exact .str i t⟩
 |.tup xs,d+1,_,_,h,r,q=>by
  simp only[ak]at r;obtain⟨a,vs,rfl,h1,h2⟩:=r;cases q;obtain⟨its,rv,⟨o,ho,hc,n,hd⟩,_⟩:=I.tuple h1;simp only[aM]at h;obtain⟨as,ra⟩:=oV I h h2 rv;exact⟨as,by simp only[aS];exact .tuple ho hc hd (by simpa using ra)⟩
 |.lst xs,d+1,_,_,h,r,q=>by
  simp only[ak]at r;obtain⟨a,vs,rfl,h1,h2⟩:=r;cases q;obtain⟨its,rv,⟨o,n,ho,hc,_,hd⟩,_⟩:=I.list h1.sq;simp only[aM]at h;obtain⟨as,ra⟩:=oV I h h2 rv;exact⟨a::as,by simp only[aS];exact .list ho hc hd (by simpa using ra)⟩
 |.tup _,0,_,_,h,_,_=>Bool.noConfusion (show false=true from h)
 |.lst _,0,_,_,h,_,_=>Bool.noConfusion (show false=true from h)
 |.ref _,_,_,_,h,_,_=>Bool.noConfusion (show false=true from h)
theorem oV(I:Inv X pins sg H s):∀{xs:List PV}{d:Nat}{vs:List V}{us:List Value},a_ xs d=true->ai X.K H mu xs vs->az vs us->∃as,ReadsAll s.heap us (bD xs) as
 |[],_,_,_,_,r,q=>by
  have e:=r.isNil;subst e;cases q;exact⟨_,by simp only[bD];exact .nil⟩
 |x::xs,d,_,_,h,r,q=>by
  obtain⟨v,vs',rfl,h1,h2⟩:=r.uncons;simp only[a_,aG]at h;cases q with
  |cons q1 q2=>
   obtain⟨as,ra⟩:=iV I h.1 h1 q1;obtain⟨bs,rb⟩:=oV I h.2 h2 q2;exact⟨as++bs,by simp only[bD];exact .cons ra rb⟩
end
end
section
variable{X:Cx}
theorem mj{pins:List (Addr×Obj)}{sg:L2.St}{H:Hp}{mu:List Addr}{S:aa}{s:Shared}{i:Int}{t:Tok}{tk:Nat}{Q:Value->Shared->Prop}(I:Inv X pins sg H s)(m:ap X.K H mu S)
  (q:aH X pins sg H mu (RV X.K) (.ok (.int i) S) Q):Q (.int i t) { s with toks:=tk }:=q.use (I.tok tk) ⟨.int i,⟨t,rfl⟩,by simp only[ak]⟩ m (Step.refl _ _)
theorem ib{pins:List (Addr×Obj)}{sg:L2.St}{H:Hp}{mu:List Addr}{S:aa}{s:Shared}{b:Bool}{Q:Value->Shared->Prop}(I:Inv X pins sg H s)(m:ap X.K H mu S)
  (q:aH X pins sg H mu (RV X.K) (.ok (.bl b) S) Q):Q (.bool b) s:=q.use I ⟨.bl b,rfl,by simp only[ak]⟩ m (Step.refl _ _)
theorem bO{K:PySem.W.Frag}{H:Hp}{mu:List Addr}{i:Int}{u:Value}(r:RV K H mu (.int i) u):∃t,u=.int i t:=by
 obtain⟨v,h1,h2⟩:=r;simp only[ak]at h2;subst h2;exact h1
theorem uf{K:PySem.W.Frag}{H:Hp}{mu:List Addr}{i:Str}{u:Value}(r:RV K H mu (.str i) u):∃t,u=.str i t:=by
 obtain⟨v,h1,h2⟩:=r;simp only[ak]at h2;subst h2;exact h1
theorem ug{K:PySem.W.Frag}{H:Hp}{mu:List Addr}{i:Bool}{u:Value}(r:RV K H mu (.bl i) u):u=.bool i:=by
 obtain⟨v,h1,h2⟩:=r;simp only[ak]at h2;subst h2;exact h1
theorem qB{K:PySem.W.Frag}{H:Hp}{mu:List Addr}{u:Value}(r:RV K H mu .non u):u=.none:=by
 obtain⟨v,h1,h2⟩:=r;simp only[ak]at h2;subst h2;exact h1
theorem ff{K:PySem.W.Frag}{H:Hp}{mu:List Addr}{xs:List PV}{u:Value}(r:RV K H mu (.tup xs) u):∃a vs,u=.ref a/\bv K H a vs/\ai K H mu xs vs:=by
 obtain⟨v,h1,h2⟩:=r;simp only[ak]at h2;obtain⟨a,vs,rfl,h3,h4⟩:=h2;exact⟨a,vs,h1,h3,h4⟩
theorem ie{K:PySem.W.Frag}{H:Hp}{mu:List Addr}{xs:List PV}{u:Value}(r:RV K H mu (.lst xs) u):∃a vs,u=.ref a/\eY K H mu a vs/\ai K H mu xs vs:=by
 obtain⟨v,h1,h2⟩:=r;simp only[ak]at h2;obtain⟨a,vs,rfl,h3,h4⟩:=h2;exact⟨a,vs,h1,h3,h4⟩
theorem jP{K:PySem.W.Frag}{H:Hp}{mu:List Addr}{n:Nat}{u:Value}(r:RV K H mu (.ref n) u):∃a,u=.ref a/\mu[n]?=some a:=by
 obtain⟨v,h1,h2⟩:=r;simp only[ak]at h2;obtain⟨a,rfl,h3⟩:=h2;exact⟨a,h1,h3⟩
theorem ig{K:PySem.W.Frag}{H:Hp}{mu:List Addr}{xs:List PV}{a:Addr}{vs:List V}(h:bv K H a vs)(r:ai K H mu xs vs):RV K H mu (.tup xs) (.ref a):=⟨.ref a,rfl,by simp only[ak];exact⟨a,vs,rfl,h,r⟩⟩
theorem qC{pins:List (Addr×Obj)}{sg:L2.St}{H:Hp}{mu:List Addr}{S:aa}{s:Shared}{xs:List PV}{vs:List V}{us:List Value}{tk:Nat}{Q:Value->Shared->Prop}(I:Inv X pins sg H s)(m:ap X.K H mu S)
  (r:ai X.K H mu xs vs) (rv:az vs us) (z:vs.length<=sizeLine)
  (q:aH X pins sg H mu (RV X.K) (.ok (.tup xs) S) Q):Q (.ref s.heap.objs.size) { s with heap:=s.heap.push { cls:=.type "tuple",data:=.seq us.toArray },toks:=tk }:=by
 have hf:H s.heap.objs.size=none:=I.hok.fresh (aF _);have I2:Inv X pins sg (ay H s.heap.objs.size (.tup vs)) { s with heap:=s.heap.push { cls:=.type "tuple",data:=.seq us.toArray },toks:=tk }:=I.laid (t':=tk) (fun b u e=>bb _ e) (aF _) ⟨z,us,rv,⟨_,ci _ rfl,rfl,_,rfl⟩⟩;exact q.use I2 (ig (bv.of eQ) ((Step.laid (mu:=mu) hf S).reps r)) (m.laid hf) (Step.laid hf S)
theorem zM{pins:List (Addr×Obj)}{sg:L2.St}{H:Hp}{mu:List Addr}{S:aa}{s:Shared}{xs:List PV}{vs:List V}{us:List Value}{tk:Nat}{Q:Value->Shared->Prop}(I:Inv X pins sg H s)(m:ap X.K H mu S)
  (r:ai X.K H mu xs vs) (rv:az vs us) (z:vs.length<=sizeLine)
  (q:aH X pins sg H mu (RV X.K) (.ok (.lst xs) S) Q):Q (.ref s.heap.objs.size) { s with heap:=s.heap.push { cls:=.type "list",data:=.seq us.toArray },toks:=tk }:=by
 have hf:H s.heap.objs.size=none:=I.hok.fresh (aF _);have I2:Inv X pins sg (ay H s.heap.objs.size (.lst vs)) { s with heap:=s.heap.push { cls:=.type "list",data:=.seq us.toArray },toks:=tk }:=I.laid (t':=tk) (fun b u e=>bb _ e) (aF _) ⟨z,us,0,rv,ci _ rfl⟩;exact q.use I2 ⟨.ref s.heap.objs.size,rfl,iU m hf r⟩ (m.laid hf) (Step.laid hf S)
theorem Gi{prog:Program}{w:World}{A:Around}{E:Value->Shared->Prop}{s:Shared}{t b:Addr}{vs ws:List Value}{Q:Value->Shared->Prop}(ht:IsTup s.heap t vs.toArray)(hb:IsTup s.heap b ws.toArray)
  (h0:vs=[]->Q (.ref b) s) (h1:ws=[]->Q (.ref t) s) (h2:Q (.ref s.heap.objs.size) { s with heap:=s.heap.push { cls:=.type "tuple",data:=.seq (vs++ws).toArray } })
  (hsz:vs.length+ws.length<=sizeLine):wpAny (model prog w) A (binaryOp .Add (.ref t) (.ref b)) Q E s:=by
 by_cases hv:vs=[]
 ·obtain⟨⟨cls,dd,data,sl⟩,ho,hc,n,hd⟩:=id ht;obtain⟨⟨cls2,dd2,data2,sl2⟩,ho2,hc2,n2,hd2⟩:=id hb;simp only at hc hd hc2 hd2;subst hc hd hc2 hd2;exact wN ⟨_,ho,rfl⟩ ⟨_,ho2,rfl⟩ CZ seq_tuple_add C0 C1 (C3 _ _)
   (tuple_addW0 t b vs.toArray ws.toArray n n2 dd dd2 sl sl2 (by simp[hv])) ⟨ho,ho2,h0 hv⟩
 ·exact HT.cat_tup ht hb hv h1 (fun _=>h2) hsz
theorem Gj(op:Operator)(o:eD)(ho:(match o with|.add=>Operator.Add|.sub=>.Sub|.mul=>.Mult|.fdiv=>.FloorDiv|.mod=>.Mod)=op):jO X (binaryOp op) (fun S x y=>aN S o x y):=by
 intro pins s sg H mu S x y u w Q I m rx ry q;subst ho;have hl:sizeLine=16777216:=cy;cases x with
 |int i=>cases y with
  |int j=>
   obtain⟨t,rfl⟩:=bO rx;obtain⟨t',rfl⟩:=bO ry;cases o with
   |sub=>exact sub_int (mj I m q)
   |add=>exact add_int (mj I m q)
   |mul=>
    simp only[aN,binI]at q;split at q
    ·rename_i hc;exact mul_int (mj I m q) (tR.ok hc)
    ·exact q.elim
   |fdiv=>
    simp only[aN,binI]at q;split at q
    ·rename_i hc;exact floordiv_int (by omega) (by rw[Int.fdiv_eq_ediv_of_nonneg i (by omega)];exact mj I m q) (.inl (PyProof.noPylong_small (by omega)))
    ·exact q.elim
   |mod=>
    simp only[aN,binI]at q;split at q
    ·rename_i hc;exact mod_int' (by omega) (by rw[Int.fmod_eq_emod_of_nonneg i (by omega)];exact mj I m q)
    ·exact q.elim
  |_=>exact q.elim
 |tup xs=>cases y with
  |int n=>cases o with
   |mul=>
    obtain⟨a,vs,rfl,h1,h2⟩:=ff rx;obtain⟨t',rfl⟩:=bO ry;simp only[aN,binI]at q;split at q
    ·rename_i hc;obtain⟨c1,c2,c3,c4⟩:=hc;obtain⟨its,r1,p1,_⟩:=I.tuple h1;have e1:=h2.length;have e3:=r1.length;by_cases hn:n=1
     ·subst hn;refine Gf p1 ?_;have e:(List.replicate (1:Int).toNat xs).flatten=xs:=by simp
      rw[e]at q;exact q.use I (ig h1 h2) m (Step.refl _ _)
     ·have h0:0<xs.length:=c3.resolve_left hn;by_cases hz:n=0
      ·subst hz;refine Gg p1 (by omega) ?_;exact qC (tk:=s.toks) (vs:=[]) (us:=[]) (xs:=[]) I m ai.nil .nil (by rw[List.length_nil];omega) q
      refine Gh p1 (by omega) (by omega) c2 (by rw[←e3,←e1];exact c4) ?_;refine qC (tk:=s.toks) I m (h2.again n.toNat) (zL r1 n.toNat) ?_ q;rw[zK,hl,←e1,Nat.mul_comm];exact c4
    ·exact q.elim
   |_=>exact q.elim
  |tup ys=>cases o with
   |add=>
    obtain⟨a,vs,rfl,h1,h2⟩:=ff rx;obtain⟨b,ws,rfl,h3,h4⟩:=ff ry;simp only[aN,binI]at q;split at q
    ·rename_i hc;have hc:xs.length+ys.length<=16777216:=hc;obtain⟨its,r1,p1,_⟩:=I.tuple h1;obtain⟨its2,r2,p2,_⟩:=I.tuple h3;have e1:=h2.length;have e2:=h4.length;have e3:=r1.length;have e4:=r2.length;refine Gi p1 p2 (fun z=>?_) (fun z=>?_) (qC (tk:=s.toks) I m (h2.append h4) (r1.append r2) (by rw[en];omega) q) (by omega)
     ·have:xs=[]:=by rw[z]at e3;simp at e3;rw[e3]at e1;simpa using e1
      subst this;exact q.use I (ig h3 h4) m (Step.refl _ _)
     ·have:ys=[]:=by rw[z]at e4;simp at e4;rw[e4]at e2;simpa using e2
      subst this;rw[lJ]at q;exact q.use I (ig h1 h2) m (Step.refl _ _)
    ·exact q.elim
   |_=>exact q.elim
  |_=>exact q.elim
 |lst xs=>cases y with
  |lst ys=>cases o with
   |add=>
    obtain⟨a,vs,rfl,h1,h2⟩:=ie rx;obtain⟨b,ws,rfl,h3,h4⟩:=ie ry;simp only[aN,binI]at q;split at q
    ·rename_i hc;have hc:xs.length+ys.length<=16777216:=hc;obtain⟨its,r1,⟨o1,n1,g1,c1,d1,e1⟩,_⟩:=I.list h1.sq;obtain⟨its2,r2,⟨o2,n2,g2,c2,d2,e2⟩,_⟩:=I.list h3.sq;have l1:=h2.length;have l2:=h4.length;have l3:=r1.length;have l4:=r2.length;obtain⟨cl1,dc1,dt1,sl1⟩:=o1;obtain⟨cl2,dc2,dt2,sl2⟩:=o2;simp only at c1 d1 e1 c2 d2 e2;subst c1 d1 e1 c2 d2 e2;have ea:its.toArray++its2.toArray=(its++its2).toArray:=by simp
     have fin:=zM (tk:=s.toks) I m (h2.append h4) (r1.append r2) (by rw[en];omega) q;rw[←ea]at fin;exact wN ⟨_,g1,rfl⟩ ⟨_,g2,rfl⟩ noFill_list_add seq_list_add PySem.F.slot_list_add PySem.F.entry_list_add (PySem.F.args_list_add_2 _ _)
      (list_addW a b its.toArray its2.toArray n1 n2 none none sl1 sl2 (by rw[aQ,aQ];omega)) ⟨g1,g2,fin⟩
    ·exact q.elim
   |_=>exact q.elim
  |_=>exact q.elim
 |_=>exact q.elim
end
end Q
namespace Q
open PySem PySem.Spec PyProof.Rows L2
section
variable{K:PySem.W.Frag}{H:Hp}{mu:List Addr}
noncomputable def aI(K:PySem.W.Frag)(H:Hp)(mu:List Addr)(kvs:List (ao×PV))(ws:List (ao×V)):Prop:=ws.map (·.1)=kvs.map (·.1)/\ai K H mu (kvs.map (·.2)) (ws.map (·.2))
theorem aI.nil:aI K H mu [] []:=⟨rfl,ai.nil⟩
theorem aI.cons{k:ao}{p:PV}{v:V}{kvs:List (ao×PV)}{ws:List (ao×V)}(r:ak K H mu p v)(h:aI K H mu kvs ws):aI K H mu ((k,p)::kvs) ((k,v)::ws):=⟨by simp[h.1],ai.cons r h.2⟩
theorem aI.isNil{ws:List (ao×V)}(h:aI K H mu [] ws):ws=[]:=by
 have:=h.1
 simpa using this
theorem aI.uncons{k:ao}{p:PV}{kvs:List (ao×PV)}{ws:List (ao×V)}(h:aI K H mu ((k,p)::kvs) ws):∃v ws',ws=(k,v)::ws'/\ak K H mu p v/\aI K H mu kvs ws':=by
 obtain⟨h1,h2⟩:=h;cases ws with
 |nil=>simp at h1
 |cons w ws'=>
  obtain⟨k',v⟩:=w;simp only[aZ,wW]at h1;obtain⟨rfl,h1⟩:=h1;obtain⟨v',vs',e,h3,h4⟩:=h2.uncons;simp only[aZ,wW]at e;obtain⟨rfl,rfl⟩:=e;exact⟨v,ws',rfl,h3,h1,h4⟩
theorem aI.length{kvs:List (ao×PV)}{ws:List (ao×V)}(h:aI K H mu kvs ws):ws.length=kvs.length:=by
 have:=congrArg List.length h.1
 simpa using this
theorem aI.val(k:ao):∀{kvs:List (ao×PV)}{ws:List (ao×V)},aI K H mu kvs ws->(∀p,cC kvs k=some p->∃v,eF ws k=some v/\ak K H mu p v)/\(cC kvs k=none->eF ws k=none)
 |[],ws,h=>by
  rw[h.isNil];exact⟨fun p e=>by simp[cC]at e,fun _=>rfl⟩
 |(j,p)::kvs,ws,h=>by
  obtain⟨v,ws',rfl,h1,h2⟩:=h.uncons;by_cases e:j=k
  ·have e1:cC ((j,p)::kvs) k=some p:=by simp[cC,List.find?_cons,e]
   rw[e1,qu (p:=(j,v)) e];exact⟨fun q hq=>by cases hq;exact⟨v,rfl,h1⟩,fun z=>by cases z⟩
  ·have e1:cC ((j,p)::kvs) k=cC kvs k:=by simp[cC,List.find?_cons,e]
   rw[e1,qv (p:=(j,v)) e];exact aI.val k h2
theorem aI.any(k:ao){kvs:List (ao×PV)}{ws:List (ao×V)}(h:aI K H mu kvs ws):(ws.any fun kv=>decide (kv.1=k))=(kvs.any fun kv=>decide (kv.1=k)):=by
 have e1:∀{β:Type}(l:List (ao×β)),(l.any fun kv=>decide (kv.1=k))=((l.map (·.1)).any fun j=>decide (j=k)):=fun l=>by rw[wX];rfl
 rw[e1,e1,h.1]
theorem aI.snoc{k:ao}{p:PV}{v:V}(r:ak K H mu p v):∀{kvs:List (ao×PV)}{ws:List (ao×V)},aI K H mu kvs ws->aI K H mu (kvs++[(k,p)]) (ws++[(k,v)])
 |[],ws,h=>by rw[h.isNil];exact aI.cons r aI.nil
 |(j,q)::kvs,ws,h=>by
  obtain⟨w,ws',rfl,h1,h2⟩:=h.uncons;exact aI.cons h1 (aI.snoc r h2)
theorem aI.repl{k:ao}{p:PV}{v:V}(r:ak K H mu p v):∀{kvs:List (ao×PV)}{ws:List (ao×V)},aI K H mu kvs ws->aI K H mu (kvs.map fun kv=>if kv.1=k then (kv.1,p) else kv) (ws.map fun kv=>if kv.1=k then (kv.1,v) else kv)
 |[],ws,h=>by rw[h.isNil];exact aI.nil
 |(j,q)::kvs,ws,h=>by
  obtain⟨w,ws',rfl,h1,h2⟩:=h.uncons;rw[aZ,aZ];by_cases e:j=k
  ·rw[ag e,ag e];exact aI.cons r (aI.repl r h2)
  ·rw[av e,av e];exact aI.cons h1 (aI.repl r h2)
theorem aI.put{k:ao}{p:PV}{v:V}(r:ak K H mu p v){kvs:List (ao×PV)}{ws:List (ao×V)}(h:aI K H mu kvs ws):aI K H mu (dA kvs k p) (db ws k v):=by
 unfold dA db;rw[h.any k];split
 ·exact h.repl r
 ·exact h.snoc r
theorem aI.drop(k:ao):∀{kvs:List (ao×PV)}{ws:List (ao×V)},aI K H mu kvs ws->aI K H mu (l5 kvs k) (jD ws k)
 |[],ws,h=>by rw[h.isNil];exact aI.nil
 |(j,q)::kvs,ws,h=>by
  obtain⟨w,ws',rfl,h1,h2⟩:=h.uncons;have ih:=aI.drop k h2;unfold l5 jD at ih ⊢;by_cases e:j=k
  ·rw[List.filter_cons_of_neg (by simp[e]),List.filter_cons_of_neg (by simp[e])];exact ih
  ·rw[List.filter_cons_of_pos (by simp[e]),List.filter_cons_of_pos (by simp[e])];exact aI.cons h1 ih
theorem aI.merge:∀{more:List (ao×PV)}{ms:List (ao×V)}{kvs:List (ao×PV)}{ws:List (ao×V)},aI K H mu more ms->aI K H mu kvs ws->aI K H mu (kP kvs more) (lY ws ms)
 |[],ms,kvs,ws,h,g=>by rw[h.isNil];exact g
 |(j,q)::more,ms,kvs,ws,h,g=>by
  obtain⟨w,ws',rfl,h1,h2⟩:=h.uncons;show aI K H mu (kP (dA kvs j q) more) (lY (db ws j w) ws');exact aI.merge h2 (g.put h1)
theorem aI.step{H':Hp}{mu':List Addr}(s:Step H mu H' mu'){kvs:List (ao×PV)}{ws:List (ao×V)}(h:aI K H mu kvs ws):aI K H' mu' kvs ws:=⟨h.1,s.reps h.2⟩
noncomputable def cn(K:PySem.W.Frag)(H:Hp)(mu:List Addr)(fs:List (Str×PV))(ws:List (Str×V)):Prop:=ws.map (·.1)=fs.map (·.1)/\ai K H mu (fs.map (·.2)) (ws.map (·.2))
theorem cn.nil:cn K H mu [] []:=⟨rfl,ai.nil⟩
theorem cn.cons{k:Str}{p:PV}{v:V}{kvs:List (Str×PV)}{ws:List (Str×V)}(r:ak K H mu p v)(h:cn K H mu kvs ws):cn K H mu ((k,p)::kvs) ((k,v)::ws):=⟨by simp[h.1],ai.cons r h.2⟩
theorem cn.isNil{ws:List (Str×V)}(h:cn K H mu [] ws):ws=[]:=by
 have:=h.1
 simpa using this
theorem cn.uncons{k:Str}{p:PV}{kvs:List (Str×PV)}{ws:List (Str×V)}(h:cn K H mu ((k,p)::kvs) ws):∃v ws',ws=(k,v)::ws'/\ak K H mu p v/\cn K H mu kvs ws':=by
 obtain⟨h1,h2⟩:=h;cases ws with
 |nil=>simp at h1
 |cons w ws'=>
  obtain⟨k',v⟩:=w;simp only[aZ,wW]at h1;obtain⟨rfl,h1⟩:=h1;obtain⟨v',vs',e,h3,h4⟩:=h2.uncons;simp only[aZ,wW]at e;obtain⟨rfl,rfl⟩:=e;exact⟨v,ws',rfl,h3,h1,h4⟩
theorem cn.length{kvs:List (Str×PV)}{ws:List (Str×V)}(h:cn K H mu kvs ws):ws.length=kvs.length:=by
 have:=congrArg List.length h.1
 simpa using this
theorem cn.look(k:Str):∀{fs:List (Str×PV)}{ws:List (Str×V)},cn K H mu fs ws->(∀p,fs.lookup k=some p->∃v,ws.lookup k=some v/\ak K H mu p v)/\(fs.lookup k=none->ws.lookup k=none)
 |[],ws,h=>by
  rw[h.isNil];exact⟨fun p e=>by simp at e,fun _=>rfl⟩
 |(j,p)::kvs,ws,h=>by
  obtain⟨v,ws',rfl,h1,h2⟩:=h.uncons;rw[List.lookup_cons,List.lookup_cons];cases e:k==j with
  |true=>exact⟨fun q hq=>by cases hq;exact⟨v,rfl,h1⟩,fun z=>by cases z⟩
  |false=>exact cn.look k h2
theorem cn.put{k:Str}{p:PV}{v:V}(r:ak K H mu p v):∀{fs:List (Str×PV)}{ws:List (Str×V)},cn K H mu fs ws->cn K H mu (kQ k p fs) (bM k v ws)
 |[],ws,h=>by rw[h.isNil];exact cn.cons r cn.nil
 |(j,q)::kvs,ws,h=>by
  obtain⟨w,ws',rfl,h1,h2⟩:=h.uncons;unfold kQ bM;by_cases e:j=k
  ·rw[ag e,ag e];exact cn.cons r h2
  ·rw[av e,av e];exact cn.cons h1 (cn.put r h2)
theorem ml{x:PV}{k:ao}{v:V}(h:cO x=some k)(r:ak K H mu x v):v=kV k:=by
 cases x with
 |int i=>cases h;simp only[ak]at r;exact r
 |str i=>cases h;simp only[ak]at r;exact r
 |_=>cases h
theorem gx{S:aa}{x:PV}{n:Nat}{kvs:List (ao×PV)}(m:ap K H mu S)(h:bB S x=some (n,kvs)){v:V}(r:ak K H mu x v):x=.ref n/\S[n]?=some (.dct kvs)/\∃a ws,v=.ref a/\mu[n]?=some a/\H a=some (.dK ws)/\aI K H mu kvs ws:=by
 cases x with
 |ref j=>
  simp only[bB]at h;split at h
  ·rename_i hS;cases h;simp only[ak]at r;obtain⟨a,rfl,hn⟩:=r;obtain⟨ws,h1,h2,h3⟩:=m.obj n a _ hn hS;exact⟨rfl,hS,a,ws,rfl,hn,h1,h2,h3⟩
  ·cases h
 |_=>cases h
theorem jQ{S:aa}{c:Str}{x:PV}{n:Nat}{fs:List (Str×PV)}(m:ap K H mu S)(h:fV S c x=some (n,fs)){v:V}(r:ak K H mu x v):x=.ref n/\S[n]?=some (.ins c fs)/\∃a C dx ws,v=.ref a/\mu[n]?=some a/\H a=some (.ins C dx ws)/\PySem.W.nsIn K mainGlobals c=some (some (.ref C))/\cn K H mu fs ws:=by
 cases x with
 |ref j=>
  simp only[fV]at h;split at h
  ·rename_i c' fs' hS;split at h
   ·rename_i hc;subst hc;cases h;simp only[ak]at r;obtain⟨a,rfl,hn⟩:=r;obtain⟨C,dx,ws,h1,h2,h3,h4⟩:=m.obj n a _ hn hS;exact⟨rfl,hS,a,C,dx,ws,rfl,hn,h1,h2,h3,h4⟩
   ·cases h
  ·cases h
 |_=>cases h
end
end Q
namespace Q
open PySem PySem.Spec PyProof.Rows L2 PySem.SeqAt
section
variable{X:Cx}
theorem zN{K:PySem.W.Frag}{H:Hp}{mu:List Addr}{S:aa}{x y:PV}{u w:Value}{b:Bool}(m:ap K H mu S)(rx:RV K H mu x u)(ry:RV K H mu y w)(h:l6 S x y=some b) :
  ∃a yv o,w=Value.ref a/\RelV yv u/\eX H a yv o/\b=o.isSome:=by
 unfold l6 at h;split at h
 ·rename_i n kvs k hd hk;cases h;obtain⟨v,rv,rp⟩:=rx;obtain⟨v',rv',rp'⟩:=ry;obtain⟨rfl,hS,a,ws,rfl,hn,h1,h2⟩:=gx m hd rp';obtain rfl:=ml hk rp;refine⟨a,kV k,_,rv',rv,eX.k h1,?_⟩;cases hv:cC kvs k with
  |none=>rw[(h2.val k).2 hv];rfl
  |some p=>obtain⟨v,e,_⟩:=(h2.val k).1 p hv;rw[e];rfl
 ·cases h
theorem gy{pins:List (Addr×Obj)}{s:Shared}{sg:L2.St}{H:Hp}{mu:List Addr}{S:aa}{x:PV}{u:Value}{xs:List PV}(I:Inv X pins sg H s)(m:ap X.K H mu S)(r:RV X.K H mu x u)(h:aE S x=some xs) :
  ∃p vs,u=.ref p/\(br X.K H p vs\/bv X.K H p vs)/\ai X.K H mu xs vs/\((∃ys,x=.tup ys)->bv X.K H p vs)/\((∀ys,x≠.tup ys)->br X.K H p vs):=by
 cases x with
 |tup ys=>
  simp only[aE,bT]at h;subst h;obtain⟨a',vs,rfl,h1,h2⟩:=ff r;exact⟨a',vs,rfl,.inr h1,h2,fun _=>h1,fun z=>absurd rfl (z _)⟩
 |lst ys=>
  simp only[aE,bT]at h;subst h;obtain⟨a',vs,rfl,h1,h2⟩:=ie r;exact⟨a',vs,rfl,.inl h1.sq,h2,fun⟨_,z⟩=>(by cases z),fun _=>h1.sq⟩
 |ref n=>
  obtain⟨a',rfl,hn⟩:=jP r;simp only[aE]at h;cases hS:S[n]? with
  |none=>rw[hS]at h;cases h
  |some o=>
   cases o with
   |lst zs=>
    rw[hS]at h;simp only[bT]at h;subst h;obtain⟨vs,h1,h2⟩:=m.obj n a' _ hn hS;exact⟨a',vs,rfl,.inl (br.of h1),h2,fun⟨_,z⟩=>(by cases z),fun _=>br.of h1⟩
   |_=>rw[hS]at h;cases h
 |_=>cases h
theorem zO:∀(xs:List PV)(x:PV),a_ xs 50=true->aM x 50=true->((bD xs).any fun y=>PyData.eqv y (aS x))=xs.any fun y=>b_ y x
 |[],_,_,_=>by simp only[bD,List.any_nil]
 |y::xs,x,h,g=>by
  simp only[a_,aG]at h;simp only[bD,List.any_cons,oU y x 50 50 h.1 g,zO xs x h.2 g]
theorem zP(hu:X.A.units+64<cLine){pins:List (Addr×Obj)}{sg:L2.St}{H:Hp}{mu:List Addr}{s:Shared}{S:aa}{x y:PV}{u w:Value}{b:Bool}{Q:Value->Shared->Prop}(I:Inv X pins sg H s)(m:ap X.K H mu S)(rx:RV X.K H mu x u)(ry:RV X.K H mu y w)(h:nF S x y=some b) :
  (Q (.bool b) s->wpAny (Mo X) X.A (compareOp .In u w) Q X.xe s)/\(Q (.bool (!b)) s->wpAny (Mo X) X.A (compareOp .NotIn u w) Q X.xe s):=by
 unfold nF at h;cases hs:aE S y with
 |none=>rw[hs]at h;cases h
 |some xs=>
  rw[hs]at h;dsimp only at h;split at h
  ·rename_i hc;rw[aG]at hc;cases h;obtain⟨p,vs,rfl,h1,h2,h3,h4⟩:=gy I m ry hs;obtain⟨v,rv,rp⟩:=rx;obtain⟨as,ra⟩:=iV I hc.1 rp rv;have hd:=fe _ _ hc.1;have hds:=qA _ _ hc.2;have hr:X.A.units+1+min (PyData.depthAll (bD xs)) (aS x).depth<cLine:=by
    have:min (PyData.depthAll (bD xs)) (aS x).depth<=(aS x).depth:=Nat.min_le_right _ _;omega
   rw[←zO xs x hc.2 hc.1];by_cases ht:∃ys,y=.tup ys
   ·obtain⟨its,rv,⟨o,ho,hc',n,hd'⟩,_⟩:=I.tuple (h3 ht);obtain⟨bs,rb⟩:=oV I hc.2 h2 rv;have R:Reads s.heap (.ref p) (.tuple (bD xs)) bs:=.tuple ho hc' hd' (by simpa using rb);exact⟨in_tuple_reads R ra hds.1 hd.1 hr,notIn_tuple_reads R ra hds.1 hd.1 hr⟩
   ·obtain⟨its,rv,⟨o,n,ho,hc',_,hd'⟩,_⟩:=I.list (h4 fun ys e=>ht ⟨ys,e⟩);obtain⟨bs,rb⟩:=oV I hc.2 h2 rv;have R:Reads s.heap (.ref p) (.list (bD xs)) (p::bs):=.list ho hc' hd' (by simpa using rb);exact⟨in_list_reads R ra hds.1 hd.1 hr,notIn_list_reads R ra hds.1 hd.1 hr⟩
  ·cases h
theorem qD{pins:List (Addr×Obj)}{sg:L2.St}{H:Hp}{mu:List Addr}{S:aa}{f:Int->Int->Bool}{x y:PV}{Q:Value->Shared->Prop}(q:aH X pins sg H mu (RV X.K) (kR S f x y) Q):∃i j,x=.int i/\y=.int j:=by
 cases x with
 |int i=>cases y with
  |int j=>exact⟨i,j,rfl,rfl⟩
  |_=>exact q.elim
 |_=>exact q.elim
theorem Gk(hu:X.A.units+64<cLine)(op:CmpOp)(o:ku)(ho:(match o with|.eq=>CmpOp.Eq|.ne=>.NotEq|.lt=>.Lt|.le=>.LtE|.gt=>.Gt|.ge=>.GtE|.inn=>.In|.notin=>.NotIn)=op) :
  jO X (compareOp op) (fun S x y=>aK S o x y):=by
 intro pins s sg H mu S x y u w Q I m rx ry q;subst ho;have room:∀{x y:PV},aM x 60=true->aM y 60=true->X.A.units+min (aS x).depth (aS y).depth<cLine:=fun h1 h2=>by
  have h3:=(fe _ _ h1).2;have h4:=(fe _ _ h2).2;have h5:min (aS x).depth (aS y).depth<=(aS x).depth:=wY _ _;omega
 cases o with
 |eq=>
  simp only[aK]at q;split at q
  ·rename_i hc;simp only[aG]at hc;obtain⟨v,rv,rp⟩:=rx;obtain⟨v',rv',rp'⟩:=ry;obtain⟨as,ra⟩:=iV I hc.1 rp rv;obtain⟨bs,rb⟩:=iV I hc.2 rp' rv';refine compareEq_reads ra rb (fe _ _ hc.1).1 (fe _ _ hc.2).1 (by have h3:=(fe _ _ hc.1).2;have h5:min (aS x).depth (aS y).depth<=(aS x).depth:=wY _ _;omega) ?_;rw[oU x y 60 60 hc.1 hc.2];exact ib I m q
  ·exact q.elim
 |ne=>
  simp only[aK]at q;split at q
  ·rename_i hc;simp only[aG]at hc;obtain⟨v,rv,rp⟩:=rx;obtain⟨v',rv',rp'⟩:=ry;obtain⟨as,ra⟩:=iV I hc.1 rp rv;obtain⟨bs,rb⟩:=iV I hc.2 rp' rv';refine compareNe_reads ra rb (fe _ _ hc.1).1 (fe _ _ hc.2).1 (by have h3:=(fe _ _ hc.1).2;have h5:min (aS x).depth (aS y).depth<=(aS x).depth:=wY _ _;omega) ?_;rw[oU x y 60 60 hc.1 hc.2];exact ib I m q
  ·exact q.elim
 |lt=>
  simp only[aK]at q;obtain⟨i,j,rfl,rfl⟩:=qD q;obtain⟨t,rfl⟩:=bO rx;obtain⟨t',rfl⟩:=bO ry;exact lt_int (ib I m q)
 |le=>
  simp only[aK]at q;obtain⟨i,j,rfl,rfl⟩:=qD q;obtain⟨t,rfl⟩:=bO rx;obtain⟨t',rfl⟩:=bO ry;exact le_int (ib I m q)
 |gt=>
  simp only[aK]at q;obtain⟨i,j,rfl,rfl⟩:=qD q;obtain⟨t,rfl⟩:=bO rx;obtain⟨t',rfl⟩:=bO ry;exact gt_int (ib I m q)
 |ge=>
  simp only[aK]at q;obtain⟨i,j,rfl,rfl⟩:=qD q;obtain⟨t,rfl⟩:=bO rx;obtain⟨t',rfl⟩:=bO ry;exact ge_int (ib I m q)
 |inn=>
  simp only[aK,l8]at q;cases hb:l6 S x y with
  |none=>
   rw[hb]at q;dsimp only at q;cases hi:nF S x y with
   |none=>rw[hi]at q;exact q.elim
   |some b=>
    rw[hi]at q;exact(zP hu I m rx ry hi).1 (ib I m q)
  |some b=>
   rw[hb]at q;obtain⟨a,yv,o,rfl,ry',g,rfl⟩:=zN m rx ry hb;exact FB (by omega) I g ry' fun s' I'=>q.use I' ⟨.bl _,rfl,by simp only[ak]⟩ m (Step.refl _ _)
 |notin=>
  simp only[aK,l8]at q;cases hb:l6 S x y with
  |none=>
   rw[hb]at q;dsimp only at q;cases hi:nF S x y with
   |none=>rw[hi]at q;exact q.elim
   |some b=>
    rw[hi]at q;exact(zP hu I m rx ry hi).2 (ib I m q)
  |some b=>
   rw[hb]at q;obtain⟨a,yv,o,rfl,ry',g,rfl⟩:=zN m rx ry hb;exact FC (by omega) I g ry' fun s' I'=>q.use I' ⟨.bl _,rfl,by simp only[ak]⟩ m (Step.refl _ _)
theorem qE{S:aa}{f:Int->Int->Bool}{x y p:PV}{S':aa}(h:kR S f x y=.ok p S'):S'=S/\∃b,p=.bl b:=by
 unfold kR at h;split at h
 ·cases h;exact⟨rfl,_,rfl⟩
 ·cases h
theorem Gn{S:aa}{o:ku}{x y p:PV}{S':aa}(h:aK S o x y=.ok p S'):S'=S/\∃b,p=.bl b:=by
 cases o with
 |eq=>simp only[aK]at h;split at h<;>cases h;exact⟨rfl,_,rfl⟩
 |ne=>
  simp only[aK]at h;split at h
  ·cases h;exact⟨rfl,_,rfl⟩
  ·cases h
 |lt=>exact qE h
 |le=>exact qE h
 |gt=>exact qE h
 |ge=>exact qE h
 |inn=>simp only[aK]at h;split at h<;>cases h;exact⟨rfl,_,rfl⟩
 |notin=>simp only[aK]at h;split at h<;>cases h;exact⟨rfl,_,rfl⟩
variable{a b c:Expr}{f g h:Ro->aa->ac PV}{pos:Pos}
theorem Go{o:ku}{op:CmpOp}(ha:DE X a f)(hb:DE X b g)(ho:jO X (compareOp op) (fun S x y=>aK S o x y))(hm:behindInMarks op b=false) :
  DT X (.Compare a [op] [b] pos) (bg (fun ro S=>(f ro S).bind fun x S1=>(g ro S1).bind fun y S2=>aK S2 o x y)):=by
 intro pins s sg H mu ro S Q I m e q;unfold bg at q;simp only[ac.bind_assoc]at q;refine De (ha pins s sg H mu ro S _ I m e (q.bind fun x S1 u H1 mu1 s1 I1 r1 m1 t1 q1=>?_)) hm;refine hb pins s1 sg H1 mu1 ro S1 _ I1 m1 (t1.env e) (q1.bind fun y S2 w H2 mu2 s2 I2 r2 m2 t2 q2=>?_);refine ho pins s2 sg H2 mu2 S2 x y u w _ I2 m2 (t2.rv r1) r2 ?_;show aH X pins sg H2 mu2 (RV X.K) (aK S2 o x y) _;cases hk:aK S2 o x y with
 |exn c' S'=>rw[hk]at q2;exact q2
 |bad=>rw[hk]at q2;exact q2
 |ok p S3=>
  obtain⟨rfl,k,rfl⟩:=Gn hk;rw[hk]at q2;intro u' H' mu' s' I' r' m' t';rw[ug r'];exact mW (aH.use (α:=Bool) q2 I' rfl m' t')
theorem qF{K:PySem.W.Frag}{H:Hp}{mu:List Addr}{x:PV}{u:Value}(r:RV K H mu x u):(u==Value.none)=fc x:=by
 obtain⟨v,h1,h2⟩:=r;cases x<;>simp only[ak]at h2
 case non=>subst h2;cases h1;rfl
 case bl=>subst h2;cases h1;rfl
 case int=>subst h2;obtain⟨t,rfl⟩:=h1;rfl
 case str=>subst h2;obtain⟨t,rfl⟩:=h1;rfl
 case tup=>obtain⟨_,_,rfl,_⟩:=h2;cases h1;rfl
 case lst=>obtain⟨_,_,rfl,_⟩:=h2;cases h1;rfl
 case ref=>obtain⟨_,rfl,_⟩:=h2;cases h1;rfl
theorem Gp {j pos'} (ha:DE X a f):DE X (.Compare a [.Is] [.Constant .none j pos'] pos) (fun ro S=>(f ro S).bind fun x S1=>.ok (.bl (fc x)) S1):=by
 intro pins s sg H mu ro S Q I m e q
 try dsimp only at q
 refine wpAny_Compare1 (ha pins s sg H mu ro S _ I m e (q.bind fun x S1 u H1 mu1 s1 I1 r1 m1 t1 q1=>?_)) (qo _ (by decide) (by decide));refine rP (is_none_gen ?_);rw[qF r1];exact ib I1 m1 q1
theorem Gq {j pos'} (ha:DE X a f):DE X (.Compare a [.IsNot] [.Constant .none j pos'] pos) (fun ro S=>(f ro S).bind fun x S1=>.ok (.bl (!fc x)) S1):=by
 intro pins s sg H mu ro S Q I m e q
 try dsimp only at q
 refine wpAny_Compare1 (ha pins s sg H mu ro S _ I m e (q.bind fun x S1 u H1 mu1 s1 I1 r1 m1 t1 q1=>?_)) (qo _ (by decide) (by decide));refine rP (isnot_none_gen ?_);rw[qF r1];exact ib I1 m1 q1
theorem Gr {j pos'} (ha:DE X a f):DT X (.Compare a [.Is] [.Constant .none j pos'] pos) (bg (fun ro S=>(f ro S).bind fun x S1=>.ok (.bl (fc x)) S1)):=by
 intro pins s sg H mu ro S Q I m e q;unfold bg at q;simp only[ac.bind_assoc]at q;refine De (ha pins s sg H mu ro S _ I m e (q.bind fun x S1 u H1 mu1 s1 I1 r1 m1 t1 q1=>?_)) (qo _ (by decide) (by decide));refine rP (is_none_gen (mW ?_));rw[qF r1];exact aH.use (α:=Bool) q1 I1 rfl m1 (Step.refl _ _)
theorem Gs {j pos'} (ha:DE X a f):DT X (.Compare a [.IsNot] [.Constant .none j pos'] pos) (bg (fun ro S=>(f ro S).bind fun x S1=>.ok (.bl (!fc x)) S1)):=by
 intro pins s sg H mu ro S Q I m e q;unfold bg at q;simp only[ac.bind_assoc]at q;refine De (ha pins s sg H mu ro S _ I m e (q.bind fun x S1 u H1 mu1 s1 I1 r1 m1 t1 q1=>?_)) (qo _ (by decide) (by decide));refine rP (isnot_none_gen (mW ?_));rw[qF r1];exact aH.use (α:=Bool) q1 I1 rfl m1 (Step.refl _ _)
theorem Gu(hc:DT X c (bg h))(ha:DT X a (bg f))(hb:DT X b (bg g)) :
  DT X (.IfExp c a b pos) (bg (fun ro S=>(h ro S).bind fun x S1=>match aJ S1 x with|some true=>f ro S1|some false=>g ro S1|none=>.bad)):=by
 intro pins s sg H mu ro S Q I m e q;refine isTrue_IfExp (hc pins s sg H mu ro S _ I m e (t_ q (fun x S1 k hr ht q1=>?_) fun x S1 ht=>by simp only[ht]));intro b' H' mu' s' I' r m' t;cases r;rw[ht]at q1;cases k with
 |true=>exact ha pins s' sg H' mu' ro S1 Q I' m' (t.env e) (q1.step t)
 |false=>exact hb pins s' sg H' mu' ro S1 Q I' m' (t.env e) (q1.step t)
theorem uh{K:PySem.W.Frag}{H:Hp}{mu:List Addr}{xs:List PV}{vs:List V}{k:Int}{p:PV}(r:ai K H mu xs vs)(h:bn xs k=some p):∃v,bn vs k=some v/\ak K H mu p v:=by
 unfold bn at h ⊢;rw[←r.length];cases e:eR xs.length k with
 |none=>rw[e]at h;cases h
 |some j=>
  rw[e]at h;obtain⟨v,h1,h2⟩:=r.get (i:=j) h;exact⟨v,h1,h2⟩
theorem Gv(hu:X.A.units+64<cLine)(ha:DE X a f)(hb:DE X b g)(hs:tV b):DE X (.Subscript a b pos) (fun ro S=>(f ro S).bind fun x S1=>(g ro S1).bind fun y S2=>aU S2 x y):=by
 intro pins s sg H mu ro S Q I m e q
 try dsimp only at q
 refine Subscript_ (ha pins s sg H mu ro S _ I m e (q.bind fun x S1 u H1 mu1 s1 I1 r1 m1 t1 q1=>?_));refine hb pins s1 sg H1 mu1 ro S1 _ I1 m1 (t1.env e) (q1.bind fun y S2 w H2 mu2 s2 I2 r2 m2 t2 q2=>?_);have r1':=t2.rv r1;unfold aU at q2;cases hx:aE S2 x with
 |none=>
  rw[hx]at q2;dsimp only at q2;unfold gv at q2;cases hd:bB S2 x with
  |none=>rw[hd]at q2;exact q2.elim
  |some z=>
   obtain⟨n,kvs⟩:=z;cases hk:cO y with
   |none=>rw[hd,hk]at q2;exact q2.elim
   |some k=>
    rw[hd,hk]at q2;dsimp only at q2;cases hv:cC kvs k with
    |none=>rw[hv]at q2;exact q2.elim
    |some p=>
     rw[hv]at q2;obtain⟨v,rv,rp⟩:=r2;obtain⟨v',rv',rp'⟩:=r1';obtain⟨rfl,hS,a',ws,rfl,hn,h1,h2⟩:=gx m2 hd rp';obtain rfl:=ml hk rp;obtain rfl:u=Value.ref a':=rv';obtain⟨v,hw,hr⟩:=(h2.val k).1 p hv;have g:eX H2 a' (kV k) (some v):=by rw[←hw];exact eX.k h1
     refine tail_any (ops:=[.ref a',w]) (FG I2 g) PySem.F.slot_dict_getitem.lookup ?_ (hs _ _);exact zk (by omega) I2 g rv fun w' s3 I3 rw'=>q2.use I3 ⟨v,rw',hr⟩ m2 (Step.refl _ _)
 |some xs=>
  rw[hx]at q2;cases y with
  |int k=>
   dsimp only at q2;cases hk:bn xs k with
   |none=>rw[hk]at q2;exact q2.elim
   |some p=>
    rw[hk]at q2;obtain⟨t,rfl⟩:=bO r2;have fin:∀v,ak X.K H2 mu2 p v->∀u' s',EP X pins sg (fun w' H'=>w'=v/\H'=H2) u' s'->Q u' s':=fun v hv u' s' ⟨w',H',I',rl,e1,e2⟩=>by
     subst e1;subst e2;exact q2.use I' ⟨_,rl,hv⟩ m2 (Step.refl _ _)
    cases x with
    |tup zs=>
     simp only[aE,bT]at hx;subst hx;obtain⟨a',vs,rfl,h1,h2⟩:=ff r1';obtain⟨v,h3,h4⟩:=uh h2 hk;exact bh (Fe (X:=X) a b pins s2 sg H2 (.ref a') (.int k) _ _ _ I2 rfl ⟨t,rfl⟩ ⟨a',vs,k,v,rfl,rfl,h1,h3,rfl,rfl⟩ (hs _ _)) (fin v h4)
    |lst zs=>
     simp only[aE,bT]at hx;subst hx;obtain⟨a',vs,rfl,h1,h2⟩:=ie r1';obtain⟨v,h3,h4⟩:=uh h2 hk;exact bh (y_ (X:=X) a b pins s2 sg H2 (.ref a') (.int k) _ _ _ I2 rfl ⟨t,rfl⟩ ⟨a',vs,k,v,rfl,rfl,h1.sq,h3,rfl,rfl⟩ (hs _ _)) (fin v h4)
    |ref n=>
     obtain⟨a',rfl,hn⟩:=jP r1';simp only[aE]at hx;cases hS:S2[n]? with
     |none=>rw[hS]at hx;cases hx
     |some o=>
      cases o with
      |lst zs=>
       rw[hS]at hx;simp only[bT]at hx;subst hx;obtain⟨vs,h1,h2⟩:=m2.obj n a' _ hn hS;obtain⟨v,h3,h4⟩:=uh h2 hk;exact bh (y_ (X:=X) a b pins s2 sg H2 (.ref a') (.int k) _ _ _ I2 rfl ⟨t,rfl⟩ ⟨a',vs,k,v,rfl,rfl,br.of h1,h3,rfl,rfl⟩ (hs _ _)) (fin v h4)
      |_=>rw[hS]at hx;cases hx
    |_=>cases hx
  |_=>exact q2.elim
theorem Gw{prog:Program}{w:World}{A:Around}{E:Value->Shared->Prop}{s:Shared}{t sl:Addr}{items:Array Value}{vl vu:Value}{lo hi:Option Int}{Q:Value->Shared->Prop}(ht:IsTup s.heap t items)(hs:s.heap.IsSliceOf sl vl vu .none)(pl:IsPart vl lo)(pu:IsPart vu hi)
  (hw:HT.sIx items.size 0 lo=0/\HT.sIx items.size items.size hi=items.size) (h:Q (.ref t) s):wpAny (model prog w) A (getItem (.ref t) (.ref sl)) Q E s:=by
 obtain⟨os,hos,hcs,hds⟩:=id hs;have hTs:s.TypeIs (.ref sl) "slice":=⟨os,hos,hcs⟩
 unfold getItem
 try with_reducible refine jn ?_
 first|refine ah (aA ?_)|skip
 refine ah (C4 ht.typeIs (by decide) ?_);refine ah (mZ (name:=Str.ofString "__getitem__") ht.typeIs kh
  (lK kh ht.typeIs entry_tuple_getitem ?_ (args_tuple_getitem _ _)))
 show wpAny _ _ (Builtin.Tuple.tupleItemsOf (.ref t)>>=_) _ _ s;refine ah (tupleItemsOf_ ht ?_);refine ah (wO hTs ?_);rw[ag (by decide)];refine ah (HT.sliceApplied_gen hs pl pu ?_);have hyes:(((HT.sIx items.size 0 lo:Nat):Int)==0&&(1:Int)==1&&(HT.sIx items.size items.size hi-HT.sIx items.size 0 lo)==items.size)=true:=by
  rw[hw.1,hw.2];simp
 show wpAny _ _ (if (((HT.sIx items.size 0 lo:Nat):Int)==0&&(1:Int)==1&&(HT.sIx items.size items.size hi-HT.sIx items.size 0 lo)==items.size)=true then _ else _) _ _ s
 rw[ag hyes];refine ah (m:=Builtin.Tuple.tupleIsExact _) (ah (wO ht.typeIs (aA ?_)));rw[ag (by decide)];exact ah (m9 (ah (aA (aA ⟨_,rfl,aA h⟩))))
end
end Q
namespace Q
open PySem PySem.Spec PyProof.Rows L2 PySem.SeqAt
section
variable{X:Cx}{a b c:Expr}{f g h:Ro->aa->ac PV}{pos:Pos}
noncomputable def DO(X:Cx)(e:Option Expr)(f:Ro->aa->ac PV):Prop:=
 ∀(pins:List (Addr×Obj))(s:Shared)(sg:L2.St)(H:Hp)(mu:List Addr)(ro:Ro)(S:aa)(Q:Value->Shared->Prop),Inv X pins sg H s->ap X.K H mu S->bd X.K H mu ro sg ->
  aH X pins sg H mu (RV X.K) (f ro S) Q->wpAny (Mo X) X.A (evalPart e X.env) Q X.xe s
theorem ui:DO X none (fun _ S=>.ok .non S):=by
 intro pins s sg H mu ro S Q I m e q;rw[evalPart_none];exact aA (q.use I ⟨.non,rfl,by simp only[ak]⟩ m (Step.refl _ _))
theorem Gx(ha:DE X a f):DO X (some a) f:=by
 intro pins s sg H mu ro S Q I m e q;rw[evalPart_some];exact ha pins s sg H mu ro S Q I m e q
theorem part_of{K:PySem.W.Frag}{H:Hp}{mu:List Addr}{p:PV}{u:Value}{o:Option Int}(r:RV K H mu p u)(h:kS p=some o):IsPart u o:=by
 cases p with
 |non=>cases h;rw[qB r];exact .none
 |int i=>cases h;obtain⟨t,rfl⟩:=bO r;exact .int i t
 |_=>cases h
theorem zQ{K:PySem.W.Frag}{H:Hp}{mu:List Addr}{xs:List PV}{vs:List V}(r:ai K H mu xs vs)(lo hi:Option Int):ai K H mu (dB xs lo hi) (g_ vs lo hi):=by
 unfold dB g_;rw[←r.length];exact(r.drop _).take _
theorem Gy{pins:List (Addr×Obj)}{s:Shared}{sg:L2.St}{H:Hp}{mu:List Addr}{S:aa}{x l hh:PV}{u vl vu:Value}{sl:Addr}{Q:Value->Shared->Prop}(I:Inv X pins sg H s)(m:ap X.K H mu S)(r:RV X.K H mu x u)
  (hs:s.heap.IsSliceOf sl vl vu .none) (rl:RV X.K H mu l vl) (rh:RV X.K H mu hh vu) (q:aH X pins sg H mu (RV X.K) (hW S x l hh) Q) :
  ∃T id,typeLookup (.type T) "__getitem__"=pure (some (.builtin id))/\s.TypeIs u T/\wpAny (Mo X) X.A (getItem u (.ref sl)) Q X.xe s:=by
 unfold hW at q;cases hl:kS l with
 |none=>rw[hl]at q;exact q.elim
 |some lo=>
  cases hh':kS hh with
  |none=>rw[hl,hh']at q;exact q.elim
  |some hi=>
   rw[hl,hh']at q;have pl:=part_of rl hl;have pu:=part_of rh hh';cases x with
   |tup xs=>
    dsimp only at q;obtain⟨a',vs,rfl,h1,h2⟩:=ff r;by_cases hw:HT.sIx vs.length 0 lo=0/\HT.sIx vs.length vs.length hi=vs.length
    ·obtain⟨its,rv,ht,hz⟩:=I.tuple h1;have hlen:its.toArray.size=vs.length:=by rw[aQ];exact rv.length.symm
     refine⟨"tuple",_,kh.lookup,ht.typeIs,?_⟩;refine Gw ht hs pl pu (by rw[hlen];exact hw) ?_;have e:dB xs lo hi=xs:=by
      unfold dB;rw[h2.length,hw.1,hw.2,iC,Nat.sub_zero,←h2.length,m_]
     rw[e]at q;exact q.use I (ig h1 h2) m (Step.refl _ _)
    ·obtain⟨T,id,e1,e2,e3⟩:=Fa (X:=X) pins s sg H (.ref a') (.ref a') vl vu lo hi sl (fun w H'=>∃p,H p=none/\w=.ref p/\H'=ay H p (.tup (g_ vs lo hi))) I rfl hs pl pu ⟨a',vs,rfl,h1,hw,fun p hp=>⟨p,hp,rfl,rfl⟩⟩;refine⟨T,id,e1,e2,bh e3 fun u' s' ⟨w,H',I',rl',p,hp,ew,eH⟩=>?_⟩;subst ew;subst eH;cases rl';exact q.use I' (ig (bv.of eQ) ((Step.laid (mu:=mu) hp S).reps (zQ h2 lo hi))) (m.laid hp) (Step.laid hp S)
   |lst xs=>
    dsimp only at q;obtain⟨a',vs,rfl,h1,h2⟩:=ie r;obtain⟨T,id,e1,e2,e3⟩:=Fm (X:=X) pins s sg H (.ref a') (.ref a') vl vu lo hi sl (fun w H'=>∃p,H p=none/\w=.ref p/\H'=ay H p (.lst (g_ vs lo hi))) I rfl hs pl pu ⟨a',vs,rfl,h1.sq,fun p hp=>⟨p,hp,rfl,rfl⟩⟩;refine⟨T,id,e1,e2,bh e3 fun u' s' ⟨w,H',I',rl',p,hp,ew,eH⟩=>?_⟩;subst ew;subst eH;cases rl';exact q.use I' ⟨.ref p,rfl,iU m hp (zQ h2 lo hi)⟩ (m.laid hp) (Step.laid hp S)
   |_=>exact q.elim
theorem Gz{lo hi:Option Expr}{p2:Pos}(ha:DE X a f)(hl:DO X lo g)(hh:DO X hi h) :
  DE X (.Subscript a (.Slice lo hi none p2) pos) (fun ro S=>(f ro S).bind fun x S1=>(g ro S1).bind fun l S2=>(h ro S2).bind fun u S3=>hW S3 x l u):=by
 intro pins s sg H mu ro S Q I m e q
 try dsimp only at q
 refine Subscript_ (ha pins s sg H mu ro S _ I m e (q.bind fun x S1 u H1 mu1 s1 I1 r1 m1 t1 q1=>?_));refine wpAny_Slice (hl pins s1 sg H1 mu1 ro S1 _ I1 m1 (t1.env e) (q1.bind fun l S2 vl H2 mu2 s2 I2 r2 m2 t2 q2=>?_));refine hh pins s2 sg H2 mu2 ro S2 _ I2 m2 ((t1.trans t2).env e) (q2.bind fun u' S3 vu H3 mu3 s3 I3 r3 m3 t3 q3=>?_);rw[evalPart_none];refine aA ?_;have I4:Inv X pins sg H3 { s3 with heap:=s3.heap.push { cls:=.type "slice",data:=.fields #[vl,vu,.none] } }:=I3.kept (t':=s3.toks) fun b ob q=>bb _ q;obtain⟨T,id,hT,ht,hg⟩:=Gy I4 m3 ((t2.trans t3).rv r1) (Df ..) (t3.rv r2) r3 q3;show wpAny (model X.prog X.w) X.A (subscriptTail a (.Slice lo hi none p2) u (.ref s3.heap.objs.size)) Q X.xe { s3 with heap:=s3.heap.push { cls:=.type "slice",data:=.fields #[vl,vu,.none] } };exact tail_any (ops:=[.ref s3.heap.objs.size,u]) ht hT hg (by with_unfolding_all rfl)
noncomputable def dR(X:Cx)(fv:Value)(k:aa->List PV->ac PV):Prop:=
 ∀(pins:List (Addr×Obj))(s:Shared)(sg:L2.St)(H:Hp)(mu:List Addr)(S:aa)(ps:List PV)(us:List Value)(Q:Value->Shared->Prop),Inv X pins sg H s->ap X.K H mu S->cf X.K H mu ps us ->
  aH X pins sg H mu (RV X.K) (k S ps) Q->wpAny (Mo X) X.A (call fv us) Q X.xe s
theorem GA{k:aa->List PV->ac PV}{id:String}{x:Str}{p:Pos}{es:List Expr}{gs:Ro->aa->ac (List PV)}(hc:dR X (.builtin id) k)(hg:Gl X x)(hm:X.mg x=none)(hv:bootBuiltins x=some (.builtin id))(ha:DA X (a::es) gs)
  (hn:x≠"__name__") (hdb:(x==("__debug__":Str))=false) (he:starEach (a::es) X.env=(false,eval a X.env)::starEach es X.env) (hpl:(backTo pos (starEach es X.env)).any (·.1)=false) :
  DE X (.Call (.Name x p) (a::es) [] pos) (fun ro S=>(gs ro S).bind fun ps S1=>k S1 ps):=by
 intro pins s sg H mu ro S Q I m e q
 try dsimp only at q
 refine iD (g9 I hg hm hv ?_ hn hdb);exact Oi (ha pos pins s sg H mu ro S _ I m e (q.bind fun ps S1 us H1 mu1 s1 I1 r1 m1 t1 q1=>hc pins s1 sg H1 mu1 S1 ps us Q I1 m1 r1 q1)) he hpl
theorem GB{k:aa->List PV->ac PV}{T:String}{x:Str}{p:Pos}{es:List Expr}{gs:Ro->aa->ac (List PV)}(hc:dR X (.type T) k)(hg:Gl X x)(hm:X.mg x=none)(hv:bootBuiltins x=some (.type T))(ha:DA X (a::es) gs)
  (hn:x≠"__name__") (hdb:(x==("__debug__":Str))=false) (he:starEach (a::es) X.env=(false,eval a X.env)::starEach es X.env) (hpl:(backTo pos (starEach es X.env)).any (·.1)=false) :
  DE X (.Call (.Name x p) (a::es) [] pos) (fun ro S=>(gs ro S).bind fun ps S1=>k S1 ps):=by
 intro pins s sg H mu ro S Q I m e q
 try dsimp only at q
 refine iD (g9 I hg hm hv ?_ hn hdb);exact Dg (ha pos pins s sg H mu ro S _ I m e (q.bind fun ps S1 us H1 mu1 s1 I1 r1 m1 t1 q1=>hc pins s1 sg H1 mu1 S1 ps us Q I1 m1 r1 q1)) he hpl
theorem k7{K:PySem.W.Frag}{H:Hp}{mu:List Addr}{us:List Value}(r:cf K H mu [] us):us=[]:=by
 obtain⟨vs,h1,h2⟩:=r;rw[h2.isNil]at h1;cases h1;rfl
theorem iW{K:PySem.W.Frag}{H:Hp}{mu:List Addr}{p:PV}{ps:List PV}{us:List Value}(r:cf K H mu (p::ps) us):∃u us',us=u::us'/\RV K H mu p u/\cf K H mu ps us':=by
 obtain⟨vs,h1,h2⟩:=r;obtain⟨v,vs',rfl,h3,h4⟩:=h2.uncons;cases h1 with
 |cons q1 q2=>exact⟨_,_,rfl,⟨v,q1,h3⟩,vs',q2,h4⟩
theorem fg{K:PySem.W.Frag}{H:Hp}{mu:List Addr}{p:PV}{us:List Value}(r:cf K H mu [p] us):∃u,us=[u]/\RV K H mu p u:=by
 obtain⟨u,us',rfl,h1,h2⟩:=iW r;rw[k7 h2];exact⟨u,rfl,h1⟩
theorem mn{K:PySem.W.Frag}{H:Hp}{mu:List Addr}{p p':PV}{us:List Value}(r:cf K H mu [p,p'] us):∃u u',us=[u,u']/\RV K H mu p u/\RV K H mu p' u':=by
 obtain⟨u,us',rfl,h1,h2⟩:=iW r;obtain⟨u',rfl,h3⟩:=fg h2;exact⟨u,u',rfl,h1,h3⟩
noncomputable def GC:Bi->Bool
 |.min2=>false
 |.max2=>false
 |_=>true
theorem ii{S:aa}{b:Bi}{x y:PV}{t:List PV}(h:GC b=true):aC S b (x::y::t)=.bad:=by
 cases t with
 |cons z t=>rfl
 |nil=>
  show zw S b x y=.bad;cases x<;>first|rfl|(cases y<;>first|rfl|(cases b<;>first|rfl|cases h))
theorem ij{pins:List (Addr×Obj)}{sg:L2.St}{H:Hp}{mu:List Addr}{α β:Type}{rel:Hp->List Addr->α->β->Prop}{r:ac α}{Q:β->Shared->Prop}(q:aH X pins sg H mu rel r Q)(h:r=.bad):False:=by
 subst h;exact q
theorem GD:dR X (.builtin "len") (fun S ps=>aC S .len ps):=by
 intro pins s sg H mu S ps us Q I m r q
 match ps,q with
 |[],q=>exact q.elim
 |_::_::_,q=>exact(ij q (ii rfl)).elim
 |[x],q=>
  obtain⟨u,rfl,rx⟩:=fg r;have hl:sizeLine=16777216:=cy;have seqc:∀xs,aE S x=some xs->aH X pins sg H mu (RV X.K) (.ok (.int xs.length) S) Q->wpAny (Mo X) X.A (call (.builtin "len") [u]) Q X.xe s:=fun xs hx q=>by
   obtain⟨p,vs,rfl,h1,h2,_,_⟩:=gy I m rx hx;exact bh (Fn (X:=X) pins s sg H [.ref p] [.ref p] (fun w H'=>w=.int vs.length/\H'=H) I (.cons rfl .nil) ⟨p,vs,rfl,h1,rfl,rfl⟩) fun u' s' ⟨w,H',I',rl,e1,e2⟩=>by
    subst e1;subst e2;rw[h2.length]at q;exact q.use I' ⟨_,rl,by simp only[ak]⟩ m (Step.refl _ _)
  cases x with
  |str y=>
   obtain⟨t,rfl⟩:=uf rx;simp only[aC,dP]at q;split at q
   ·rename_i hc;exact bh (Fo (X:=X) pins s sg H [.str y] [.str y t] (fun w H'=>w=.int y.length/\H'=H) I (.cons ⟨t,rfl⟩ .nil) ⟨y,rfl,by rw[hl];exact hc,rfl,rfl⟩) fun u' s' ⟨w,H',I',rl,e1,e2⟩=>by
     subst e1;subst e2;exact q.use I' ⟨_,rl,by simp only[ak]⟩ m (Step.refl _ _)
   ·exact q.elim
  |tup xs=>exact seqc xs rfl q
  |lst xs=>exact seqc xs rfl q
  |ref n=>
   simp only[aC,dP]at q;cases hx:aE S (.ref n)with
   |none=>
    rw[hx]at q;dsimp only at q;cases hd:bB S (.ref n)with
    |none=>rw[hd]at q;exact q.elim
    |some z=>
     obtain⟨n',kvs⟩:=z;rw[hd]at q;dsimp only at q;obtain⟨v',rv',rp'⟩:=rx;obtain⟨_,hS,a,ws,rfl,hn,h1,h2⟩:=gx m hd rp';obtain rfl:u=Value.ref a:=rv';rw[←h2.length]at q;exact FF I (.inl h1) fun t s' I'=>q.use I' ⟨.int _,⟨t,rfl⟩,by simp only[ak]⟩ m (Step.refl _ _)
   |some xs=>rw[hx]at q;exact seqc xs hx q
  |_=>exact q.elim
theorem GE:dR X (.type "tuple") (fun S ps=>aC S .tuple ps):=by
 intro pins s sg H mu S ps us Q I m r q
 match ps,q with
 |[],q=>exact q.elim
 |_::_::_,q=>exact(ij q (ii rfl)).elim
 |[x],q=>
  obtain⟨u,rfl,rx⟩:=fg r;simp only[aC,dP]at q;cases hx:aE S x with
  |none=>rw[hx]at q;exact q.elim
  |some xs=>
   rw[hx]at q;obtain⟨p,vs,rfl,h1,h2,h3,h4⟩:=gy I m rx hx;by_cases ht:∃ys,x=.tup ys
   ·have h5:=h3 ht;exact bh (Fb (X:=X) pins s sg H [.ref p] [.ref p] (fun w H'=>w=.ref p/\H'=H) I (.cons rfl .nil) ⟨p,vs,rfl,h5,rfl,rfl⟩) fun u' s' ⟨w,H',I',rl,e1,e2⟩=>by
     subst e1;subst e2;cases rl;exact q.use I' (ig h5 h2) m (Step.refl _ _)
   ·have h5:=h4 fun ys z=>ht ⟨ys,z⟩;exact bh (Fp (X:=X) pins s sg H [.ref p] [.ref p] (fun w H'=>∃l,H l=none/\w=.ref l/\H'=ay H l (.tup vs)) I (.cons rfl .nil) ⟨p,vs,rfl,.inl ⟨h5,fun l hl=>⟨l,hl,rfl,rfl⟩⟩⟩) fun u' s' ⟨w,H',I',rl,l,hl,e1,e2⟩=>by
     subst e1;subst e2;cases rl;exact q.use I' (ig (bv.of eQ) ((Step.laid (mu:=mu) hl S).reps h2)) (m.laid hl) (Step.laid hl S)
theorem GF:dR X (.type "list") (fun S ps=>aC S .listN ps):=by
 intro pins s sg H mu S ps us Q I m r q
 match ps,q with
 |[],q=>exact q.elim
 |_::_::_,q=>exact(ij q (ii rfl)).elim
 |[x],q=>
  obtain⟨u,rfl,rx⟩:=fg r;simp only[aC,dP]at q;cases hx:aE S x with
  |none=>rw[hx]at q;exact q.elim
  |some xs=>
   rw[hx]at q;obtain⟨p,vs,rfl,h1,h2,h3,h4⟩:=gy I m rx hx;exact bh (za (X:=X) pins s sg H [.ref p] [.ref p] (fun w H'=>∃l,H l=none/\w=.ref l/\H'=ay H l (.lst vs)) I (.cons rfl .nil) ⟨p,vs,rfl,h1,fun l hl=>⟨l,hl,rfl,rfl⟩⟩) fun u' s' ⟨w,H',I',rl,l,hl,e1,e2⟩=>by
    subst e1;subst e2;cases rl;refine q.use I' ⟨.ref l,rfl,?_⟩ (m.grow hl h2) (Step.grow hl);simp only[ak];exact⟨l,rfl,by rw[←m.len];simp⟩
theorem GH:dR X (.builtin "abs") (fun S ps=>aC S .abs ps):=by
 intro pins s sg H mu S ps us Q I m r q
 match ps,q with
 |[],q=>exact q.elim
 |y::z::w,q=>exact(ij q (ii rfl)).elim
 |[x],q=>
  obtain⟨u,rfl,rx⟩:=fg r;cases x with
  |int i=>
   obtain⟨t,rfl⟩:=bO rx;exact call_abs_int fun u tk=>mj I m q
  |_=>exact q.elim
theorem uj{K:PySem.W.Frag}{H:Hp}{mu:List Addr}:∀{xs:List PV}{l:List Bool}{vs:List V},fB xs=some l->ai K H mu xs vs->vs=l.map V.bl
 |[],l,vs,h,r=>by simp only[fB,bT]at h;subst h;rw[r.isNil];rfl
 |.bl b::xs,l,vs,h,r=>by
  simp only[fB]at h;cases e:fB xs with
  |none=>rw[e]at h;cases h
  |some l'=>
   rw[e]at h;cases h;obtain⟨v,vs',rfl,h1,h2⟩:=r.uncons;simp only[ak]at h1;subst h1;rw[uj e h2];rfl
 |.non::_,_,_,h,_=>by cases h
 |.int _::_,_,_,h,_=>by cases h
 |.str _::_,_,_,h,_=>by cases h
 |.tup _::_,_,_,h,_=>by cases h
 |.lst _::_,_,_,h,_=>by cases h
 |.ref _::_,_,_,h,_=>by cases h
theorem k8{K:PySem.W.Frag}{H:Hp}{mu:List Addr}:∀{xs:List PV}{l:List Int}{vs:List V},de xs=some l->ai K H mu xs vs->vs=l.map V.int
 |[],l,vs,h,r=>by simp only[de,bT]at h;subst h;rw[r.isNil];rfl
 |.int b::xs,l,vs,h,r=>by
  simp only[de]at h;cases e:de xs with
  |none=>rw[e]at h;cases h
  |some l'=>
   rw[e]at h;cases h;obtain⟨v,vs',rfl,h1,h2⟩:=r.uncons;simp only[ak]at h1;subst h1;rw[k8 e h2];rfl
 |.non::_,_,_,h,_=>by cases h
 |.bl _::_,_,_,h,_=>by cases h
 |.str _::_,_,_,h,_=>by cases h
 |.tup _::_,_,_,h,_=>by cases h
 |.lst _::_,_,_,h,_=>by cases h
 |.ref _::_,_,_,h,_=>by cases h
theorem mq{pins:List (Addr×Obj)}{s:Shared}{sg:L2.St}{H:Hp}{p:Addr}{vs:List V}{A:Around}{E:Value->Shared->Prop}{Q:Value->Shared->Prop}(hA:A.handled=none)(I:Inv X pins sg H s)(h:br X.K H p vs\/bv X.K H p vs)
  (k:∀its:List Value,az vs its->∀(J:Addr)(fp wr:List Addr)(St:Nat->Heap->Prop)(s2:Shared),Walks X.prog X.w A J fp wr its.length (fun i v=>its[i]?=some v) St->St 0 s2.heap->(∀b∈fp,b<s2.heap.objs.size) ->
   (∀h' tk,(∀b o,b∉wr->s2.heap.get? b=some o->h'.get? b=some o)->Inv X pins sg H { s2 with heap:=h',toks:=tk })->Q (.ref J) s2) :
  wpAny (Mo X) A (pyIter (.ref p)) Q E s:=by
 have key:∀(o:Obj)(its:List Value),(∀(s2:Shared),s2={ s with heap:=s.heap.push o }->∀h' tk,(∀b o,b∉[s.heap.objs.size]->s2.heap.get? b=some o->h'.get? b=some o)->Inv X pins sg H { s2 with heap:=h',toks:=tk }):=by
  intro o its s2 e h' tk hk;subst e;have I1:Inv X pins sg H { s with heap:=h',toks:=tk }:=I.kept fun b ob hb=>hk b ob (by simp;exact bU (aX hb)) (bb _ hb);exact I1
 rcases h with h|h
 ·obtain⟨its,rv,pl,hz⟩:=I.list h;refine jo pl.isList ?_;have hp:p≠s.heap.objs.size:=by
   obtain⟨o,n,e,_⟩:=pl;exact bU (aX e)
  have W:=Walks.list (prog:=X.prog) (w:=X.w) (A:=A) hA s.heap.objs.size p hp its.toArray;refine k its rv s.heap.objs.size [s.heap.objs.size,p] [s.heap.objs.size] (fun i h=>h.IsListIter s.heap.objs.size p i/\h.IsList p its.toArray) _ (by simpa using W) ⟨⟨_,ci _ rfl,rfl,rfl⟩,pl.isList.push _⟩ (fun b hb=>?_) (key _ its _ rfl);rw[gj];simp at hb;rcases hb with rfl|rfl
  ·exact fO _
  ·obtain⟨o,n,e,_⟩:=pl;exact pY (aX e)
 ·obtain⟨its,rv,pl,hz⟩:=I.tuple h;have pl':s.heap.IsTuple p its.toArray:=pl;refine km pl' ?_;have hlt:p<s.heap.objs.size:=pl.lt;have W:=Walks.tuple (prog:=X.prog) (w:=X.w) (A:=A) hA s.heap.objs.size p (bU hlt) its.toArray;refine k its rv s.heap.objs.size [s.heap.objs.size,p] [s.heap.objs.size] (fun i h=>h.IsTupleIter s.heap.objs.size p i/\h.IsTuple p its.toArray) _ (by simpa using W) ⟨⟨_,ci _ rfl,rfl,rfl⟩,pl'.at fun o e=>bb _ e⟩ (fun b hb=>?_) (key _ its _ rfl);rw[gj];simp at hb;rcases hb with rfl|rfl
  ·exact fO _
  ·exact pY hlt
theorem all_range{l:List Bool}:(List.range l.length).all (fun i=>(l[i]?).getD false)=l.all id:=by
 induction l with
 |nil=>rfl
 |cons b l ih=>
  rw[List.length_cons,List.range_succ_eq_map,List.all_cons,rX,List.all_cons,←ih];congr 1
theorem any_range{l:List Bool}:(List.range l.length).any (fun i=>(l[i]?).getD false)=l.any id:=by
 induction l with
 |nil=>rfl
 |cons b l ih=>
  rw[List.length_cons,List.range_succ_eq_map,List.any_cons,wX,List.any_cons,←ih];congr 1
theorem zR(f:Nat->Int):∀n,preSum f (n+1)=f 0+preSum (fun i=>f (i+1)) n
 |0=>by show preSum f 0+f 0=_;simp[preSum]
 |n+1=>by
  show preSum f (n+1)+f (n+1)=f 0+(preSum (fun i=>f (i+1)) n+f (n+1))
  rw[zR f n];omega
theorem GI{l:List Int}:preSum (fun i=>(l[i]?).getD 0) l.length=l.sum:=by
 induction l with
 |nil=>rfl
 |cons b l ih=>
  rw[List.length_cons,zR,List.sum_cons,←ih];rfl
theorem zS{l:List Bool}{its:List Value}(r:az (l.map V.bl) its):its.length=l.length/\∀(i:Nat) v,its[i]?=some v->v=.bool ((l[i]?).getD false):=by
 refine⟨by rw[←r.length,aw],fun i v e=>?_⟩;have hi:i<l.length:=by
  have:=(bF.mp e).1;rw[←r.length,aw]at this;exact this
 obtain⟨u,h1,h2⟩:=r.get (i:=i) (x:=.bl l[i]) (by rw[bG,a6 hi];rfl);rw[e]at h1;cases h1;rw[a6 hi];exact h2
theorem oW{l:List Int}{its:List Value}(r:az (l.map V.int) its):its.length=l.length/\∀(i:Nat) v,its[i]?=some v->∃t,v=.int ((l[i]?).getD 0) t:=by
 refine⟨by rw[←r.length,aw],fun i v e=>?_⟩;have hi:i<l.length:=by
  have:=(bF.mp e).1;rw[←r.length,aw]at this;exact this
 obtain⟨u,h1,h2⟩:=r.get (i:=i) (x:=.int l[i]) (by rw[bG,a6 hi];rfl);rw[e]at h1;cases h1;rw[a6 hi];exact h2
theorem GJ(hc:X.calm=true):dR X (.builtin "all") (fun S ps=>aC S .all ps):=by
 intro pins s sg H mu S ps us Q I m r q
 match ps,q with
 |[],q=>exact q.elim
 |_::_::_,q=>exact(ij q (ii rfl)).elim
 |[x],q=>
  obtain⟨u,rfl,rx⟩:=fg r;simp only[aC,dP]at q;cases hx:aE S x with
  |none=>rw[hx]at q;exact q.elim
  |some xs=>
   rw[hx]at q;dsimp only at q;cases hb:fB xs with
   |none=>rw[hb]at q;exact q.elim
   |some l=>
    rw[hb]at q;obtain⟨p,vs,rfl,h1,h2,_,_⟩:=gy I m rx hx;have ev:=uj hb h2;subst ev;refine call_all_walk (mq (A:=X.A.in1) (I.ok.hd hc) I h1 fun its rv J fp wr St s2 W st hfp hI=>?_);obtain⟨el,ei⟩:=zS rv;refine⟨J,fp,wr,its.length,_,St,fun i=>(l[i]?).getD false,rfl,W,st,fun i v s' Q' E' hv hq=>?_,fun h' tk hk=>?_⟩
    ·rw[ei i v hv];exact mW hq
    ·rw[el,all_range];exact q.use (hI h' tk hk) ⟨.bl _,rfl,by simp only[ak]⟩ m (Step.refl _ _)
theorem GK(hc:X.calm=true):dR X (.builtin "any") (fun S ps=>aC S .any ps):=by
 intro pins s sg H mu S ps us Q I m r q
 match ps,q with
 |[],q=>exact q.elim
 |_::_::_,q=>exact(ij q (ii rfl)).elim
 |[x],q=>
  obtain⟨u,rfl,rx⟩:=fg r;simp only[aC,dP]at q;cases hx:aE S x with
  |none=>rw[hx]at q;exact q.elim
  |some xs=>
   rw[hx]at q;dsimp only at q;cases hb:fB xs with
   |none=>rw[hb]at q;exact q.elim
   |some l=>
    rw[hb]at q;obtain⟨p,vs,rfl,h1,h2,_,_⟩:=gy I m rx hx;have ev:=uj hb h2;subst ev;refine call_any_walk (mq (A:=X.A.in1) (I.ok.hd hc) I h1 fun its rv J fp wr St s2 W st hfp hI=>?_);obtain⟨el,ei⟩:=zS rv;refine⟨J,fp,wr,its.length,_,St,fun i=>(l[i]?).getD false,rfl,W,st,fun i v s' Q' E' hv hq=>?_,fun h' tk hk=>?_⟩
    ·rw[ei i v hv];exact mW hq
    ·rw[el,any_range];exact q.use (hI h' tk hk) ⟨.bl _,rfl,by simp only[ak]⟩ m (Step.refl _ _)
theorem GL(hc:X.calm=true):dR X (.builtin "sum") (fun S ps=>aC S .sum ps):=by
 intro pins s sg H mu S ps us Q I m r q
 match ps,q with
 |[],q=>exact q.elim
 |_::_::_,q=>exact(ij q (ii rfl)).elim
 |[x],q=>
  obtain⟨u,rfl,rx⟩:=fg r;simp only[aC,dP]at q;cases hx:aE S x with
  |none=>rw[hx]at q;exact q.elim
  |some xs=>
   rw[hx]at q;dsimp only at q;cases hb:de xs with
   |none=>rw[hb]at q;exact q.elim
   |some l=>
    rw[hb]at q;obtain⟨p,vs,rfl,h1,h2,_,_⟩:=gy I m rx hx;have ev:=k8 hb h2;subst ev;refine call_sum_walkG (mq (A:=X.A.in1) (I.ok.hd hc) I h1 fun its rv J fp wr St s2 W st hfp hI=>?_);obtain⟨el,ei⟩:=oW rv;refine⟨J,fp,wr,its.length,_,St,fun i=>(l[i]?).getD 0,rfl,W,st,hfp,ei,fun h' tk t' hk=>?_⟩;rw[el,GI];exact q.use (hI h' tk hk) ⟨.int _,⟨t',rfl⟩,by simp only[ak]⟩ m (Step.refl _ _)
end
end Q
namespace Q
open PySem PySem.Spec PyProof.Rows L2 PySem.SeqAt
noncomputable def ul:Ty->String
 |.bool=>"bool"|.int=>"int"|.str=>"str"|.tuple=>"tuple"|.list=>"list"
section
variable{X:Cx}
theorem GM{pins:List (Addr×Obj)}{sg:L2.St}{H:Hp}{mu:List Addr}{s:Shared}{A:Around}{E:Value->Shared->Prop}{Q:Value->Shared->Prop}{x:PV}{u:Value}{ty:Ty}{b:Bool}(I:Inv X pins sg H s)(r:RV X.K H mu x u)(e:tZ ty x=some b)
  (h:∀tk,Q (.bool b) { s with toks:=tk }):wpAny (Mo X) A (call (.builtin "isinstance") [u,.type (ul ty)]) Q E s:=by
 cases x with
 |non=>
  rw[qB r];exact pZ PySem.W.kitx_none I.kIn True.intro (by cases ty<;>cases e<;>rfl) (fun z=>nomatch z) h
 |bl c=>
  rw[ug r];exact pZ PySem.W.kitx_bool I.kIn True.intro (by cases ty<;>cases e<;>rfl) (fun z=>nomatch z) h
 |int c=>
  obtain⟨t,rfl⟩:=bO r;exact pZ PySem.W.kitx_int I.kIn True.intro (by cases ty<;>cases e<;>rfl) (fun z=>nomatch z) h
 |str c=>
  obtain⟨t,rfl⟩:=uf r;exact pZ PySem.W.kitx_str I.kIn True.intro (by cases ty<;>cases e<;>rfl) (fun z=>nomatch z) h
 |tup c=>
  obtain⟨a,vs,rfl,h1,h2⟩:=ff r;obtain⟨its,rv,⟨o,ho,hc,_⟩,_⟩:=I.tuple h1;exact pZ PySem.W.kitx_tuple I.kIn ⟨o,ho,hc⟩ (by cases ty<;>cases e<;>rfl) (fun z=>nomatch z) h
 |lst c=>
  obtain⟨a,vs,rfl,h1,h2⟩:=ie r;obtain⟨its,rv,⟨o,n,ho,hc,_⟩,_⟩:=I.list h1.sq;exact pZ PySem.W.kitx_list I.kIn ⟨o,ho,hc⟩ (by cases ty<;>cases e<;>rfl) (fun z=>nomatch z) h
 |ref n=>cases ty<;>cases e
variable{a b c:Expr}{f g h:Ro->aa->ac PV}{pos:Pos}
theorem GN{ty:Ty}{x xT:Str}{p pT:Pos}(hg:Gl X x)(hm:X.mg x=none)(hv:bootBuiltins x=some (.builtin "isinstance"))(hgT:Gl X xT)(hmT:X.mg xT=none)(hvT:bootBuiltins xT=some (.type (ul ty)))(ha:DE X a f)
  (hn:x≠"__name__") (hdb:(x==("__debug__":Str))=false) (hnT:xT≠"__name__") (hdbT:(xT==("__debug__":Str))=false) (he:starEach [a,.Name xT pT] X.env=(false,eval a X.env)::starEach [.Name xT pT] X.env) :
  DE X (.Call (.Name x p) [a,.Name xT pT] [] pos) (fun ro S=>((f ro S).bind fun x S1=>.ok [x] S1).bind fun ps S1=>aC S1 (.isinst ty) ps):=by
 intro pins s sg H mu ro S Q I m e q;simp only[ac.bind_assoc,ac.bind_ok]at q;refine iD (g9 I hg hm hv ?_ hn hdb);refine Oi ?_ he rfl;rw[he];show wpAny _ _ (spliced ((false,eval a X.env)::backTo pos (starEach [.Name xT pT] X.env))) _ _ s;refine gQ (ha pins s sg H mu ro S _ I m e (q.bind fun y S1 u H1 mu1 s1 I1 r1 m1 t1 q1=>?_));show wpAny _ _ (spliced ((false,_)::[])) _ _ s1;refine gQ (g9 I1 hgT hmT hvT (kj ?_) hnT hdbT);simp only[aC,dP]at q1;cases hb:tZ ty y with
 |none=>rw[hb]at q1;exact q1.elim
 |some b=>
  rw[hb]at q1;exact GM I1 r1 hb fun tk=>q1.use (I1.tok tk) ⟨.bl b,rfl,by simp only[ak]⟩ m1 (Step.refl _ _)
theorem oX:∀{l:List Int}{its:List Value},az (l.map V.int) its->IntsAre its l
 |[],its,r=>by cases r;exact .nil
 |i::l,its,r=>by
  cases r with
  |cons h t=>
   obtain⟨k,rfl⟩:=h;exact .cons _ _ (oX t)
theorem um:∀{l:List Int}{its:List Value},IntsAre its l->az (l.map V.int) its
 |_,_,.nil=>.nil
 |_,_,.cons n t h=>.cons ⟨t,rfl⟩ (um h)
theorem uo{K:PySem.W.Frag}{H:Hp}{mu:List Addr}:∀(ns:List Int),ai K H mu (ns.map PV.int) (ns.map V.int)
 |[]=>ai.nil
 |n::ns=>ai.cons (by simp only[ak]) (uo ns)
theorem zT{S:aa}{x:PV}{xs:List PV}(h:iQ S x=some xs):aE S x=some xs/\∀ys,x≠.tup ys:=by
 cases x<;>simp only[iQ]at h<;>first|cases h|skip
 ·exact⟨rfl,fun _ z=>by cases z⟩
 ·exact⟨h,fun _ z=>by cases z⟩
theorem oY{pins:List (Addr×Obj)}{s:Shared}{sg:L2.St}{H:Hp}{mu:List Addr}{S:aa}{x:PV}{u:Value}{l:List Int}(I:Inv X pins sg H s)(m:ap X.K H mu S)(r:RV X.K H mu x u)(h:dO S x=some l) :
  ∃p,u=.ref p/\br X.K H p (l.map V.int):=by
 unfold dO at h;cases hx:iQ S x with
 |none=>rw[hx]at h;cases h
 |some xs=>
  rw[hx]at h;obtain⟨h1,h2⟩:=zT hx;obtain⟨p,vs,rfl,_,h3,_,h4⟩:=gy I m r h1;rw[←k8 h h3];exact⟨p,rfl,h4 h2⟩
theorem zU:∀{l:List Int}{M:Int},M∈l->(∀a∈l,M<=a)->cP l=some M
 |[],_,h,_=>nomatch h
 |[i],M,h,_=>by simp at h;subst h;rfl
 |i::j::l,M,h,g=>by
  obtain⟨m,hm,hl,hle⟩:∃m,cP (j::l)=some m/\m∈j::l/\∀a∈j::l,m<=a:=by
   clear h g;have aux:∀(l:List Int)(j:Int),∃m,cP (j::l)=some m/\m∈j::l/\∀a∈j::l,m<=a:=by
    intro l
    induction l with
    |nil=>intro j;exact⟨j,rfl,by simp,by simp⟩
    |cons b l ih=>
     intro j;obtain⟨m,h1,h2,h3⟩:=ih b;by_cases hc:m<j
     ·refine⟨m,by simp only[cP,h1,ag hc],bq _ h2,fun a ha=>?_⟩;rcases aP.mp ha with rfl|z
      ·omega
      ·exact h3 a z
     ·refine⟨j,by simp only[cP,h1,av hc],bK,fun a ha=>?_⟩;rcases aP.mp ha with rfl|z
      ·exact iE _
      ·have:=h3 a z;omega
   exact aux l j
  have e1:=g m (bq _ hl);have e2:=g i bK;simp only[cP,hm];rcases aP.mp h with rfl|z
  ·rw[av (by omega)]
  ·have:=hle M z;have:m=M:=by omega
   subst this;by_cases hc:m<i
   ·rw[ag hc]
   ·rw[av hc];congr 1;omega
theorem GO{l:List Int}{M:Int}(h:M∈l)(g:∀a∈l,a<=M):jG l=some M:=by
 have aux:∀(l:List Int),jG l=(cP (l.map (- ·))).map (- ·):=by
  intro l
  induction l with
  |nil=>rfl
  |cons i l ih=>
   cases l with
   |nil=>simp[jG,cP]
   |cons j l=>
    simp only[aZ]at ih ⊢;simp only[jG,cP,ih];cases cP (-j::l.map (- ·))with
    |none=>rfl
    |some m=>
     simp only[Option.map_some];by_cases hc:m < -i
     ·rw[ag hc,ag (by omega)]
     ·rw[av hc,av (by omega)];simp
 rw[aux,zU (M:=-M) (bc.mpr ⟨M,h,rfl⟩) (fun a ha=>by
  obtain⟨b,hb,rfl⟩:=bc.mp ha;have:=g b hb;omega)]
 simp
theorem uq(f:Nat->Int):∀k,argBest (fun i j=>decide (f i<f j)) k<=k/\∀j≤k,f (argBest (fun i j=>decide (f i<f j)) k)<=f j
 |0=>⟨aF _,fun j hj=>by
  have:j=0:=by omega
  subst this;exact iE _⟩
 |k+1=>by
  obtain⟨h1,h2⟩:=uq f k;rw[argBest];by_cases hc:f (k+1)<f (argBest (fun i j=>decide (f i<f j)) k)
  ·rw[ag (by simpa using hc)];refine⟨aF _,fun j hj=>?_⟩;by_cases hj':j=k+1
   ·subst hj';exact iE _
   ·have:=h2 j (by omega);omega
  ·rw[av (by simpa using hc)];refine⟨by omega,fun j hj=>?_⟩;by_cases hj':j=k+1
   ·subst hj';omega
   ·exact h2 j (by omega)
theorem GP(f:Nat->Int):∀k,argBest (fun i j=>decide (f i>f j)) k<=k/\∀j≤k,f j<=f (argBest (fun i j=>decide (f i>f j)) k):=fun k=>by
 have h:=uq (fun i=>-f i) k;have e:(fun i j=>decide (-f i < -f j))=fun i j=>decide (f i>f j):=by
  funext i j;rw[decide_eq_decide];omega
 rw[e]at h;exact⟨h.1,fun j hj=>by have:=h.2 j hj;omega⟩
theorem zV{l:List Int}{i:Nat}(h:i<l.length):(l[i]?).getD 0∈l:=by
 rw[a6 h];exact lP h
theorem GQ(hc:X.calm=true){pins:List (Addr×Obj)}{s:Shared}{sg:L2.St}{H:Hp}{mu:List Addr}{S:aa}{x:PV}{u:Value}{Q:Value->Shared->Prop}(I:Inv X pins sg H s)(m:ap X.K H mu S)(r:RV X.K H mu x u)(q:aH X pins sg H mu (RV X.K) (l9 cP S x) Q) :
  wpAny (Mo X) X.A (call (.builtin "min") [u]) Q X.xe s:=by
 unfold l9 at q;cases hx:dO S x with
 |none=>rw[hx]at q;exact q.elim
 |some l=>
  rw[hx]at q;dsimp only at q;obtain⟨p,rfl,h1⟩:=oY I m r hx;cases hb:cP l with
  |none=>rw[hb]at q;exact q.elim
  |some i=>
   rw[hb]at q;have hl:0<l.length:=by cases l with|nil=>cases hb|cons _ _=>simp
   refine call_min_walk (mq (A:=X.A.in1) (I.ok.hd hc) I (.inl h1) fun its rv J fp wr St s2 W st hfp hI=>?_);obtain⟨el,ei⟩:=oW rv;refine⟨J,fp,wr,its.length,_,St,_,rfl,W,st,hfp,by omega,CmpOf.ints_lt (fun i=>(l[i]?).getD 0) ei,fun v h' tk hv hk=>?_⟩;obtain⟨t,rfl⟩:=ei _ v hv;obtain⟨a1,a2⟩:=uq (fun i=>(l[i]?).getD 0) (its.length-1);have hm:=zU (l:=l) (zV (show argBest (fun i j=>decide ((l[i]?).getD 0<(l[j]?).getD 0)) (its.length-1)<l.length by omega)) (fun a ha=>by
    obtain⟨k,hk1,rfl⟩:=pW ha;have:=a2 k (by omega)
    simpa [a6 hk1]using this)
   rw[hm]at hb;cases hb;exact q.use (hI h' tk hk) ⟨.int _,⟨t,rfl⟩,by simp only[ak]⟩ m (Step.refl _ _)
theorem GR(hc:X.calm=true){pins:List (Addr×Obj)}{s:Shared}{sg:L2.St}{H:Hp}{mu:List Addr}{S:aa}{x:PV}{u:Value}{Q:Value->Shared->Prop}(I:Inv X pins sg H s)(m:ap X.K H mu S)(r:RV X.K H mu x u)(q:aH X pins sg H mu (RV X.K) (l9 jG S x) Q) :
  wpAny (Mo X) X.A (call (.builtin "max") [u]) Q X.xe s:=by
 unfold l9 at q;cases hx:dO S x with
 |none=>rw[hx]at q;exact q.elim
 |some l=>
  rw[hx]at q;dsimp only at q;obtain⟨p,rfl,h1⟩:=oY I m r hx;cases hb:jG l with
  |none=>rw[hb]at q;exact q.elim
  |some i=>
   rw[hb]at q;have hl:0<l.length:=by cases l with|nil=>cases hb|cons _ _=>simp
   refine call_max_walk (mq (A:=X.A.in1) (I.ok.hd hc) I (.inl h1) fun its rv J fp wr St s2 W st hfp hI=>?_);obtain⟨el,ei⟩:=oW rv;refine⟨J,fp,wr,its.length,_,St,_,rfl,W,st,hfp,by omega,CmpOf.ints_gt (fun i=>(l[i]?).getD 0) ei,fun v h' tk hv hk=>?_⟩;obtain⟨t,rfl⟩:=ei _ v hv;obtain⟨a1,a2⟩:=GP (fun i=>(l[i]?).getD 0) (its.length-1);have hm:=GO (l:=l) (zV (show argBest (fun i j=>decide ((l[i]?).getD 0>(l[j]?).getD 0)) (its.length-1)<l.length by omega)) (fun a ha=>by
    obtain⟨k,hk1,rfl⟩:=pW ha;have:=a2 k (by omega)
    simpa [a6 hk1]using this)
   rw[hm]at hb;cases hb;exact q.use (hI h' tk hk) ⟨.int _,⟨t,rfl⟩,by simp only[ak]⟩ m (Step.refl _ _)
theorem zW{pins:List (Addr×Obj)}{s:Shared}{sg:L2.St}{H:Hp}{mu:List Addr}{S:aa}{its:List Value}{out:Array Value}{ns:List Int}{Q:Value->Shared->Prop}(I:Inv X pins sg H s)(m:ap X.K H mu S)(hi:IntsAre out.toList ns)(hn:ns.length<64)
  (q:aH X pins sg H mu (RV X.K) (.ok (.lst (ns.map PV.int)) S) Q):Q (.ref (s.heap.objs.size+1)) { s with heap:=sortedAll s.heap its out,toks:=s.toks }:=by
 have hf:H (s.heap.objs.size+1)=none:=I.hok.fresh (pS _);obtain⟨e,he⟩:=sortedAll_at s.heap its out;have hl:sizeLine=16777216:=cy;have I2:Inv X pins sg (ay H (s.heap.objs.size+1) (.lst (ns.map V.int))) { s with heap:=sortedAll s.heap its out,toks:=s.toks }:=
  I.laid (fun b u z=>sortedAll_old z) (pS _) ⟨by rw[aw];omega,out.toList,e,um hi,by simpa using he⟩
 exact q.use I2 ⟨.ref _,rfl,iU m hf (uo ns)⟩ (m.laid hf) (Step.laid hf S)
theorem zX{ns l:List Int}(h:ns.Perm l)(hs:ns.Pairwise (·<=·)):ns=dk l:=by
 refine Oj (fun a b _ _ h1 h2=>Dh h1 h2) hs ?_ (h.trans (wZ _ _).symm);have:=Di (le:=fun a b:Int=>decide (a<=b)) (fun a b c h1 h2=>by simp at *;omega) (fun a b=>by simp;omega) l;exact this.imp fun h=>by simpa using h
theorem GS{ns l:List Int}(h:ns.Perm l)(hs:ns.Pairwise (·>=·)):ns=iS l:=by
 refine Oj (fun a b _ _ h1 h2=>Dh h2 h1) hs ?_ (h.trans (wZ _ _).symm);have:=Di (le:=fun a b:Int=>decide (b<=a)) (fun a b c h1 h2=>by simp at *;omega) (fun a b=>by simp;omega) l;exact this.imp fun h=>by simpa using h
theorem GT{pins:List (Addr×Obj)}{s:Shared}{sg:L2.St}{H:Hp}{mu:List Addr}{S:aa}{x:PV}{u:Value}{Q:Value->Shared->Prop}(I:Inv X pins sg H s)(m:ap X.K H mu S)(r:RV X.K H mu x u)(q:aH X pins sg H mu (RV X.K) (jF dk S x) Q) :
  wpAny (Mo X) X.A (call (.builtin "sorted") [u]) Q X.xe s:=by
 unfold jF at q;cases hx:dO S x with
 |none=>rw[hx]at q;exact q.elim
 |some l=>
  rw[hx]at q;dsimp only at q;obtain⟨p,rfl,h1⟩:=oY I m r hx;split at q
  ·rename_i hlen;obtain⟨its,rv,pl,_⟩:=I.list h1;obtain⟨el,_⟩:=oW rv;refine sorted_ints pl.isList (oX rv) (by omega) fun out ns' hi hp hs=>?_;have e:=zX hp hs;subst e;exact zW I m hi (by rw[hp.length_eq];exact hlen) q
  ·exact q.elim
theorem GU{pins:List (Addr×Obj)}{s:Shared}{sg:L2.St}{H:Hp}{mu:List Addr}{S:aa}{x:PV}{u:Value}{Q:Value->Shared->Prop}(I:Inv X pins sg H s)(m:ap X.K H mu S)(r:RV X.K H mu x u)(q:aH X pins sg H mu (RV X.K) (jF iS S x) Q) :
  wpAny (Mo X) X.A (call (.builtin "sorted") [u] [(Str.ofString "reverse",.bool true)]) Q X.xe s:=by
 unfold jF at q;cases hx:dO S x with
 |none=>rw[hx]at q;exact q.elim
 |some l=>
  rw[hx]at q;dsimp only at q;obtain⟨p,rfl,h1⟩:=oY I m r hx;split at q
  ·rename_i hlen;obtain⟨its,rv,pl,_⟩:=I.list h1;obtain⟨el,_⟩:=oW rv;refine sorted_ints_rev pl.isList (oX rv) (by omega) fun out ns' hi hp hs=>?_;have e:=GS hp (by unfold Ordered at hs;simpa using hs);subst e;exact zW I m hi (by rw[hp.length_eq];exact hlen) q
  ·exact q.elim
theorem GW(hc:X.calm=true):dR X (.builtin "max") (fun S ps=>aC S .max2 ps):=by
 intro pins s sg H mu S ps us Q I m r q
 match ps,q with
 |[],q=>exact q.elim
 |[y],q=>
  obtain⟨u,rfl,rx⟩:=fg r;exact GR hc I m rx q
 |y::z::_::_,q=>cases y<;>cases z<;>exact q.elim
 |[x,y],q=>
  obtain⟨u,u',rfl,rx,ry⟩:=mn r;cases x<;>cases y<;>first|exact q.elim|skip
  rename_i i j;obtain⟨t,rfl⟩:=bO rx;obtain⟨t',rfl⟩:=bO ry;exact bh (EN (X:=X) hc pins s sg H [.int i,.int j] _ (fun w H'=>w=.int (if j>i then j else i)/\H'=H) I (.cons ⟨t,rfl⟩ (.cons ⟨t',rfl⟩ .nil)) ⟨i,j,rfl,rfl,rfl⟩) fun u' s' ⟨w,H',I',rl,e1,e2⟩=>by
   subst e1;subst e2;exact q.use I' ⟨_,rl,by simp only[ak]⟩ m (Step.refl _ _)
theorem GX(l:Addr)(items:Array Value)(n:Nat)(b:Addr)(items2:Array Value)(n2:Nat)(dd:Option Addr)(sl:Array (Option Value))(hs0:¬(!items.isEmpty&&Builtin.List.listTooLong (items.size+items2.size))=true)(hs1:items.size<=sizeLine)(hs2:items.size+items2.size<=sizeLine+1) :
  Meets (Builtin.«list.extend» ⟨[.ref l,.ref b],[]⟩) (fun _ R s=>s.heap.get? l=some { cls:=.type "list",dict:=none,data:=.seq items n,slots:=#[] }/\s.heap.get? b=some { cls:=.type "tuple",dict:=dd,data:=.seq items2 n2,slots:=sl }/\R (.ok (.ret Value.none)) { s with heap:=s.heap.update l (Obj.mapSeq fun x=>x++items2),toks:=s.toks }):=
 .of_wp fun prog w A R s h=>by
  obtain⟨hp,g,d,tk,os⟩:=s;obtain⟨hl,hb,h⟩:=h;have f1:=AutoSeq1.idx_int;have f2:=Dj;have f3:=AutoSeq1.sub_list_list;have f4:=AutoSeq1.sub_tuple_list;have f5:=AutoSeq1.sub_list_tuple;have hz2:(items++items2).size<=sizeLine+1:=by
   rw[Array.size_append];exact hs2
  wp_walk using (rY hl rfl (hz:=hs1) (_hz':=hz2)),gS hl,gS hb
  exact⟨_,rfl,h⟩
theorem GY(l:Addr)(items:Array Value)(n:Nat)(b:Addr)(items2:Array Value)(n2:Nat)(dd:Option Addr)(sl:Array (Option Value))(hs0:¬(!items.isEmpty&&Builtin.List.listTooLong (items.size+items2.size))=true)(hs1:items.size<=sizeLine)(hs2:items.size+items2.size<=sizeLine+1) :
  Meets (Builtin.«list.extend» ⟨[.ref l,.ref b],[]⟩) (fun _ R s=>s.heap.get? l=some { cls:=.type "list",dict:=none,data:=.seq items n,slots:=#[] }/\s.heap.get? b=some { cls:=.type "list",dict:=dd,data:=.seq items2 n2,slots:=sl }/\R (.ok (.ret Value.none)) { s with heap:=s.heap.update l (Obj.mapSeq fun x=>x++items2),toks:=s.toks }):=
 .of_wp fun prog w A R s h=>by
  obtain⟨hp,g,d,tk,os⟩:=s;obtain⟨hl,hb,h⟩:=h;have f1:=AutoSeq1.idx_int;have f2:=Dj;have f3:=AutoSeq1.sub_list_list;have f4:=AutoSeq1.sub_tuple_list;have f5:=AutoSeq1.sub_list_tuple;have hz2:(items++items2).size<=sizeLine+1:=by
   rw[Array.size_append];exact hs2
  wp_walk using (rY hl rfl (hz:=hs1) (_hz':=hz2)),gS hl,gS hb
  exact⟨_,rfl,h⟩
noncomputable def ur(X:Cx)(id:String)(k:aa->PV->PV->ac PV):Prop:=
 ∀(pins:List (Addr×Obj))(s:Shared)(sg:L2.St)(H:Hp)(mu:List Addr)(S:aa)(x y:PV)(u w:Value)(Q:Value->Shared->Prop),Inv X pins sg H s->ap X.K H mu S->RV X.K H mu x u->RV X.K H mu y w ->
  aH X pins sg H mu (RV X.K) (k S x y) Q->wpAny (Mo X) X.A (call (.builtin id) [u,w]) Q X.xe s
theorem GZ:ur X "list.append" (fun S x y=>gw S x y):=by
 intro pins s sg H mu S x y u w Q I m rx ry q;cases x with
 |ref n=>
  obtain⟨a',rfl,hn⟩:=jP rx;simp only[gw]at q;cases hS:S[n]? with
  |none=>rw[hS]at q;exact q.elim
  |some o=>
   cases o with
   |lst xs=>
    rw[hS]at q;dsimp only at q;obtain⟨vs,h1,h2⟩:=m.obj n a' _ hn hS;obtain⟨v,rv,rp⟩:=ry;split at q
    ·rename_i hc;have hl:sizeLine=16777216:=cy;have hc:xs.length<16777216:=hc;have e1:=h2.length;exact bh (Ft (X:=X) pins s sg H (.ref a') [v] (.ref a') [w] (fun z H'=>z=.non/\H'=ay H a' (.lst (vs++[v]))) I rfl (.cons rv .nil) ⟨a',vs,v,rfl,rfl,h1,by omega,rfl,rfl⟩) fun u' s' ⟨z,H',I',rl,e1,e2⟩=>by
      subst e1;subst e2;exact q.use I' ⟨_,rl,by simp only[ak]⟩ (m.write hn h1 (h2.append (ai.cons rp ai.nil))) (Step.write hn h1)
    ·exact q.elim
   |_=>rw[hS]at q;exact q.elim
 |_=>exact q.elim
theorem ai.erase{K:PySem.W.Frag}{H:Hp}{mu:List Addr}:∀{ps:List PV}{vs:List V}(j:Nat),ai K H mu ps vs->ai K H mu (ps.eraseIdx j) (vs.eraseIdx j)
 |[],vs,j,h=>by rw[h.isNil];exact ai.nil
 |p::ps,vs,0,h=>by
  obtain⟨v,vs',rfl,h1,h2⟩:=h.uncons;exact h2
 |p::ps,vs,j+1,h=>by
  obtain⟨v,vs',rfl,h1,h2⟩:=h.uncons;exact ai.cons h1 (ai.erase j h2)
theorem G0:ur X "list.extend" (fun S x y=>kX S x y):=by
 intro pins s sg H mu S x y u w Q I m rx ry q;have hl:sizeLine=16777216:=cy;cases x with
 |ref n=>
  obtain⟨a',rfl,hn⟩:=jP rx;simp only[kX]at q;cases hy:aE S y with
  |none=>rw[hy]at q;exact q.elim
  |some ys=>
   rw[hy]at q;dsimp only at q;cases hS:S[n]? with
   |none=>rw[hS]at q;exact q.elim
   |some o=>
    cases o with
    |lst xs=>
     rw[hS]at q;dsimp only at q;obtain⟨vs,h1,h2⟩:=m.obj n a' _ hn hS;obtain⟨p,ws,rfl,h3,h4,h5,h6⟩:=gy I m ry hy;obtain⟨z,its,k,r,el,e⟩:=I.lstM h1;split at q
     ·rename_i hc;have hc:xs.length+ys.length<=16777216:=hc;have l1:=h2.length;have l2:=h4.length;have goal:∀(its2:List Value),az ws its2->Q .none { s with heap:=s.heap.update a' (Obj.mapSeq fun x=>x++its2.toArray),toks:=s.toks }:=fun its2 r2=>by
       have l3:=r2.length;have I':Inv X pins sg (ay H a' (.lst (vs++ws))) { s with heap:=s.heap.update a' (Obj.mapSeq fun x=>x++its2.toArray),toks:=s.toks }:=
        I.lset (its':=its++its2) (t':=s.toks) h1 e (by simp) (r.append r2) (by rw[en];omega)
       exact q.use I' ⟨.non,rfl,by simp only[ak]⟩ (m.write hn h1 (h2.append h4)) (Step.write hn h1)
      have nl:∀its2:List Value,ws.length=its2.length->¬(!its.toArray.isEmpty&&Builtin.List.listTooLong (its.toArray.size+its2.toArray.size))=true:=fun its2 hz=>by
       rw[Fq (by rw[aQ,aQ];omega),rZ];exact wK
      rcases h3 with h3|h3
      ·obtain⟨its2,r2,⟨⟨cls,dd,data,sl⟩,k2,ho,hcl,hd,hdt⟩,_⟩:=I.list h3;simp only at hcl hd hdt;subst hcl hd hdt;have l3:=r2.length;exact iB F.slot_list_extend ⟨_,e,rfl⟩ F.entry_list_extend (F.args_list_extend_2 _ _)
        (GY a' its.toArray k p its2.toArray k2 none sl (nl its2 l3) (by rw[aQ];omega) (by rw[aQ,aQ];omega)) ⟨e,ho,goal its2 r2⟩
      ·obtain⟨its2,r2,⟨⟨cls,dd,data,sl⟩,ho,hcl,k2,hdt⟩,_⟩:=I.tuple h3;simp only at hcl hdt;subst hcl hdt;have l3:=r2.length;exact iB F.slot_list_extend ⟨_,e,rfl⟩ F.entry_list_extend (F.args_list_extend_2 _ _)
        (GX a' its.toArray k p its2.toArray k2 dd sl (nl its2 l3) (by rw[aQ];omega) (by rw[aQ,aQ];omega)) ⟨e,ho,goal its2 r2⟩
     ·exact q.elim
    |_=>rw[hS]at q;exact q.elim
 |_=>exact q.elim
theorem zY{S S':aa}{x y:PV}(h:cj S x=.ok y S'):y=x/\S'=S/\∃n xs,x=.ref n/\S[n]?=some (.lst xs):=by
 unfold cj at h;split at h
 ·split at h
  ·rename_i hS;cases h;exact⟨rfl,rfl,_,_,rfl,hS⟩
  ·cases h
 ·cases h
theorem zZ{S S':aa}{x:PV}{c:Str}(h:cj S x=.exn c S'):False:=by
 unfold cj at h;split at h
 ·split at h<;>cases h
 ·cases h
theorem z6{id:String}{k:aa->PV->PV->ac PV}{name:Str}{apos:Pos}(pa:PlainAttrs "list")(slot:Slot "list" name id)(hty:typeOf (.builtin id)=pure (.type "method_descriptor"))(hm:ur X id k)(ha:DE X a f)(hb:DE X b g)
  (hbase:attributeBase a name X.env (eval a X.env)=eval a X.env) (hline:(apos.endLine==pos.line)=true) (hs:starEach [b] X.env=[(false,eval b X.env)]) :
  DE X (.Call (.Attribute a name apos) [b] [] pos) (fun ro S=>((f ro S).bind fun x S1=>cj S1 x).bind fun x S1=>(g ro S1).bind fun y S2=>k S2 x y):=by
 intro pins s sg H mu ro S Q I m e q
 try dsimp only at q
 rw[ac.bind_assoc]at q;refine w_ hbase (by rw[hs];rfl) hline rfl (ha pins s sg H mu ro S _ I m e (q.bind fun x S1 u H1 mu1 s1 I1 r1 m1 t1 q1=>?_));cases hc:cj S1 x with
 |bad=>rw[hc]at q1;exact q1.elim
 |exn c' S'=>exact(zZ hc).elim
 |ok y S'=>
  rw[hc,ac.bind_ok]at q1;obtain⟨rfl,rfl,n,xs,rfl,hS⟩:=zY hc;obtain⟨a',rfl,hn⟩:=jP r1;obtain⟨vs,h1,h2⟩:=m1.obj n a' _ hn hS;obtain⟨z,its,k',r,el,e'⟩:=I1.lstM h1;refine⟨"list",id,pa,slot,hty,⟨_,e',rfl⟩,fun b' hb'=>?_,?_⟩
  ·cases hb';exact⟨_,e',rfl⟩
  ·rw[hs];refine r_ rfl (p5 ?_);show wpAny _ _ (spliced ((false,eval b X.env)::[])) _ _ s1;refine gQ (hb pins s1 sg H1 mu1 ro S' _ I1 m1 (t1.env e) (q1.bind fun y S2 w H2 mu2 s2 I2 r2 m2 t2 q2=>kj ?_));exact hm pins s2 sg H2 mu2 S2 (.ref n) y (.ref a') w Q I2 m2 (t2.rv r1) r2 q2
end
end Q
namespace Q
open PySem PySem.Spec PyProof.Rows L2 PySem.SeqAt
noncomputable def jR(A:Around)(s:Shared)(x y:Value)(b:Bool):Prop:=
 ∀(prog:Program)(w:World)(E Q:Value->Shared->Prop),Q (.bool b) s->wpAny (model prog w) A (richCompare .Lt x y) Q E s
theorem jR.ints{A:Around}{s:Shared}(i j:Int)(t u:Tok):jR A s (.int i t) (.int j u) (decide (i<j)):=fun prog w E Q q=>
 CmpOf.ints_lt (P:=fun n v=>(n=0/\v=.int i t)\/(n=1/\v=.int j u)) (fun n=>if n=0 then i else j)
  (fun n v h=>by rcases h with ⟨rfl,rfl⟩|⟨rfl,rfl⟩<;>exact⟨_,rfl⟩) 0 1 _ _ s Q E (.inl ⟨rfl,rfl⟩) (.inr ⟨rfl,rfl⟩) q
theorem ut{p q:PV}{ps qs:List PV}:eI (p::ps) (q::qs)=if b_ p q then eI ps qs else eG p q:=by simp only[eI]
theorem G1(l b:Addr)(xs ys:Array Value)(n n2:Nat)(dd dd2:Option Addr)(sl sl2:Array (Option Value))(K:PySem.W.Frag)(H:Hp)(mu:List Addr)(k:Bool) :
  Meets (Builtin.«tuple.__lt__» ⟨[.ref l,.ref b],[]⟩) (fun A R s=>s.heap.get? l=some ⟨.type "tuple",dd,.seq xs n,sl⟩/\s.heap.get? b=some ⟨.type "tuple",dd2,.seq ys n2,sl2⟩ /\
   (∃ps qs,cf K H mu ps xs.toList/\cf K H mu qs ys.toList/\eI ps qs=some k/\(∀p q u v,p∈ps->q∈qs->RV K H mu p u->RV K H mu q v->EqAt A.in1 s u v (b_ p q)/\∀c,eG p q=some c->jR A.in1 s u v c))/\R (.ok (.ret (.bool k))) s):=
 .of_wp fun prog w A R s h=>by
  obtain⟨hp,g,d,tk,os⟩:=s;obtain⟨hl,hb,⟨ps,qs,r1,r2,hk,hc⟩,hR⟩:=h;have sub:=Dj
  wp_walk using wpAny_loadPart' hl,wpAny_loadPart' hb,wpAny_forIn_list _ (fun rest z s'=>z.1=none/\s'=⟨hp,g,d,tk,os⟩/\∃us vs ps' qs',rest=us.zip vs/\cf K H mu ps' us/\cf K H mu qs' vs/\(∀p∈ps',p∈ps)/\(∀q∈qs',q∈qs)/\eI ps' qs'=some k/\decide (us.length<vs.length)=decide (xs.size<ys.size)) _
  case turn=>
   rintro⟨u,v⟩ rest z s' ⟨hz,rfl,us,vs,ps',qs',e,q1,q2,m1,m2,hk',hln⟩;cases ps' with
   |nil=>rw[k7 q1]at e;cases e
   |cons p ps'=>
    obtain⟨u',us',rfl,a1,a2⟩:=iW q1;cases qs' with
    |nil=>rw[k7 q2]at e;cases e
    |cons q qs'=>
     obtain⟨v',vs',rfl,b1,b2⟩:=iW q2;rw[List.zip_cons_cons]at e;cases e;obtain⟨c1,c2⟩:=hc p q u v (m1 p (bK ..)) (m2 q (bK ..)) a1 b1;rw[ut]at hk';refine ah (c1 prog w _ _ ?_);cases he:b_ p q with
     |true=>
      rw[he]at hk'
      wp_walk
      exact⟨rfl,rfl,us',vs',ps',qs',rfl,a2,b2,fun y hy=>m1 y (bq _ hy),fun y hy=>m2 y (bq _ hy),hk',by simpa using hln⟩
     |false=>
      rw[he]at hk';simp only[iF,aL];refine ah (m9 (ah (c2 k hk' prog w _ _ ?_)))
      wp_walk
      exact⟨_,rfl,hR⟩
  case fin=>
   rintro⟨z1,z2⟩ s' ⟨hz,rfl,us,vs,ps',qs',e,q1,q2,m1,m2,hk',hln⟩;simp only at hz;subst hz;have hkk:decide (xs.size<ys.size)=k:=by
    rw[←hln];cases ps' with
    |nil=>
     rw[k7 q1];cases qs' with
     |nil=>rw[k7 q2];simpa [eI]using hk'
     |cons q qs'=>
      obtain⟨v',vs',rfl,b1,b2⟩:=iW q2
      simpa [eI]using hk'
    |cons p ps'=>
     obtain⟨u',us',rfl,a1,a2⟩:=iW q1;cases qs' with
     |nil=>rw[k7 q2];simpa [eI]using hk'
     |cons q qs'=>
      obtain⟨v',vs',rfl,b1,b2⟩:=iW q2;rw[List.zip_cons_cons]at e;cases e
   wp_walk
   exact⟨_,rfl,by rw[←hkk]at hR;simpa [Builtin.Tuple.tupleCompareSizes]using hR⟩
  case h=>
   exact⟨rfl,rfl,_,_,ps,qs,rfl,r1,r2,fun _ z=>z,fun _ z=>z,hk,by simp⟩
section
variable{X:Cx}
theorem k9:∀{ps:List PV}{d:Nat}{p:PV},a_ ps d=true->p∈ps->aM p d=true
 |[],_,_,_,h=>nomatch h
 |q::ps,d,p,h,m=>by
  simp only[a_,aG]at h;rcases aP.mp m with rfl|m
  ·exact h.1
  ·exact k9 h.2 m
theorem G2{pins:List (Addr×Obj)}{sg:L2.St}{H:Hp}{mu:List Addr}{s:Shared}{A:Around}{x y:PV}{u v:Value}{d:Nat}(I:Inv X pins sg H s)(hx:aM x d=true)(hy:aM y d=true)(rx:RV X.K H mu x u)(ry:RV X.K H mu y v)(hu:A.units+d<cLine):EqAt A s u v (b_ x y):=by
 obtain⟨v1,rv,rp⟩:=rx;obtain⟨v2,rv',rp'⟩:=ry;obtain⟨as,ra⟩:=iV I hx rp rv;obtain⟨bs,rb⟩:=iV I hy rp' rv';have h3:=(fe _ _ hx).2;have h5:min (aS x).depth (aS y).depth<=(aS x).depth:=wY _ _;rw[←oU x y d d hx hy];exact eqAt_reads _ _ A s u v as bs ra rb (fe _ _ hx).1 (fe _ _ hy).1 (by omega)
theorem G3{pins:List (Addr×Obj)}{sg:L2.St}{H:Hp}{mu:List Addr}{s:Shared}(I:Inv X pins sg H s):∀(d:Nat){A:Around}{x y:PV}{u v:Value}{c:Bool},aM x d=true->aM y d=true->RV X.K H mu x u->RV X.K H mu y v->A.units+d<cLine->eG x y=some c->jR A s u v c:=by
 have ki:∀{A:Around}{i:Int}{y:PV}{u v:Value}{c:Bool},RV X.K H mu (.int i) u->RV X.K H mu y v->eG (.int i) y=some c->jR A s u v c:=fun {A i y u v c} rx ry h=>by
  cases y<;>simp only[eG]at h<;>first|cases h|skip
  obtain⟨t,rfl⟩:=bO rx;obtain⟨t',rfl⟩:=bO ry;exact jR.ints _ _ _ _
 intro d
 induction d with
 |zero=>
  intro A x y u v c hx hy rx ry hu h;cases x<;>first|exact ki rx ry h|(simp only[eG]at h;cases h)|(simp only[aM]at hx;cases hx)
 |succ d ih=>
  intro A x y u v c hx hy rx ry hu h;cases x<;>first|exact ki rx ry h|(simp only[eG]at h;cases h)|skip
  rename_i xs;cases y<;>simp only[eG]at h<;>first|cases h|skip
  rename_i ys;simp only[aM]at hx hy;obtain⟨a,vs,rfl,h1,h2⟩:=ff rx;obtain⟨b,ws,rfl,g1,g2⟩:=ff ry;obtain⟨is,e1,⟨⟨c1,d1,t1,s1⟩,o1,k1,n1,z1⟩,_⟩:=I.tuple h1;obtain⟨js,e2,⟨⟨c2,d2,t2,s2⟩,o2,k2,n2,z2⟩,_⟩:=I.tuple g1;simp only at k1 z1 k2 z2;subst k1 z1 k2 z2;intro prog w E Q q;refine richCompare_meets_room (op:=.Lt) ⟨_,o1,rfl⟩ ⟨_,o2,rfl⟩ F.slot_tuple_lt F.entry_tuple_lt (F.args_tuple_lt_2 _ _) (G1 a b is.toArray js.toArray n1 n2 d1 d2 s1 s2 X.K H mu c)
   ⟨o1,o2,⟨xs,ys,⟨vs,by simpa using e1,h2⟩,⟨ws,by simpa using e2,g2⟩,h,fun p r u v mp mr rp rr=>⟨G2 I (k9 hx mp) (k9 hy mr) rp rr (show A.units+1+d<cLine by omega),fun c' hc'=>ih (k9 hx mp) (k9 hy mr) rp rr (show A.units+1+d<cLine by omega) hc'⟩⟩,⟨(fun z=>nomatch z),q⟩⟩ (by omega)
end
section
variable{prog:Program}{w:World}{A:Around}{E:Value->Shared->Prop}{s:Shared}
theorem G4{R:Result->Shared->Prop}{J:Addr}{fp wr:List Addr}{n:Nat}{P:Nat->Value->Prop}{St:Nat->Heap->Prop}(B:Nat->Value->Prop)(L:Addr)(W:Walks prog w A.in1 J fp wr n P St)(hL:L∉fp)(hs:∀b o,s.heap.get? b=some o->b≠L)
  (hstep:∀j u v h tk,j<n->P j v->B j u->(∀b o,b∉wr->s.heap.get? b=some o->h.get? b=some o)->∃c,jR A.in1 { s with heap:=h,toks:=tk } v u c/\B (j+1) (if c then v else u))
  (hR:∀u h tk,B n u->(∀b o,b∉wr->s.heap.get? b=some o->h.get? b=some o)->R (.ok (.ret u)) { s with heap:=h,toks:=tk }) :
  ∀(k j:Nat)(h:Heap)(tk:Nat)(u:Value)(c:Nat),j+k=n->St j h->B j u->h.get? L=some ⟨.type "list",none,.seq #[u,u] c,#[]⟩->(∀b o,b∉wr->s.heap.get? b=some o->h.get? b=some o) ->
   codeAny (model prog w) A (.builtin "min.loop" ⟨[.ref J,.none,.ref L],[]⟩) R { s with heap:=h,toks:=tk }:=by
 have hLw:L∉wr:=fun z=>hL (W.sub _ z);have nm:(toString "min"++toString ".loop":String)="min.loop":=by decide
 intro k
 induction k with
 |zero=>
  intro j h tk u c hj st hB hl fr;refine xf (Dk) ?_;rw[Dl (nc) _];show wpAny _ A.in1 (seqItems? (.ref L)>>=_) _ _ _;refine ah (iG hl rfl ?_);show wpAny _ A.in1 (tryCatch (pyNext (.ref J)) _>>=_) _ _ _;refine ah (xg (W.done _ _ _ (show St n h by rw[←hj];exact st) fun h' tk' hk=>?_));refine ah (rY (hk L _ hLw hl) rfl (ah (ng (aA ?_))));exact hR u _ tk' (by rw[←hj];exact hB) fun b o hb e=>(lL _ _ (a7 (hs b o e))).trans (hk b o hb (fr b o hb e))
 |succ k ih=>
  intro j h tk u c hj st hB hl fr;refine xf (Dk) ?_;rw[Dl (nc) _];show wpAny _ A.in1 (seqItems? (.ref L)>>=_) _ _ _;refine ah (iG hl rfl ?_);show wpAny _ A.in1 (tryCatch (pyNext (.ref J)) _>>=_) _ _ _;refine ah (xg (W.item j _ _ _ (by omega) st fun v h' tk' hP st' hk=>?_));have hl':=hk L _ hLw hl;have fr':∀b o,b∉wr->s.heap.get? b=some o->h'.get? b=some o:=fun b o hb e=>hk b o hb (fr b o hb e);obtain⟨c',lt,hB'⟩:=hstep j u v h' tk' (by omega) hP hB fr';show wpAny _ A.in1 (tryCatch (holding [v,v] (richCompare .Lt v u>>=_)) _>>=_) _ _ _;refine ah (xg (jn (ah (lt prog w _ _ ?_))));refine ah (jn (mW (ah (ng (aA ?_)))));cases c' with
  |true=>
   simp only[aL];refine ah (rY hl' rfl (ah (ng ?_)));rw[nm];refine aA ⟨xh (nc) _,ih (j+1) _ tk' v _ (by omega) (W.frame _ _ _ st' fun b hb o e=>?_) hB' (wP _ hl' rfl) fun b o hb e=>(lL _ _ (a7 (hs b o e))).trans (fr' b o hb e)⟩;exact(lL _ _ fun z:L=b=>hL (z ▸ hb)).trans e
  |false=>
   simp only[eC,dj];refine ah (ng ?_);rw[nm];exact aA ⟨xh (nc) _,ih (j+1) _ tk' u _ (by omega) st' hB' hl' fr'⟩
theorem G5{x:Value}{Q:Value->Shared->Prop}
  (h:wpAny (model prog w) A.in1 (pyIter x) (fun it s2=>∃J fp wr n P St,∃B:Nat->Value->Prop,it=.ref J/\Walks prog w A.in1 J fp wr n P St/\St 0 s2.heap/\(∀b∈fp,b<s2.heap.objs.size)/\0<n/\(∀v,P 0 v->B 1 v) /\
   (∀j u v h tk,j<n->P j v->B j u->(∀b o,b∉wr->s2.heap.get? b=some o->h.get? b=some o)->∃c,jR A.in1 { s2 with heap:=h,toks:=tk } v u c/\B (j+1) (if c then v else u)) /\
   ∀u h tk,B n u->(∀b o,b∉wr->s2.heap.get? b=some o->h.get? b=some o)->Q u { s2 with heap:=h,toks:=tk }) E s) :
  wpAny (model prog w) A (call (.builtin "min") [x]) Q E s:=by
 have nm:(toString "min"++toString ".loop":String)="min.loop":=by decide
 refine call_function_tree (F.kind_min) F.plain_min F.entry_min (F.args_min1 _) ?_;show wpAny _ A.in1 (Builtin.Builtins.bindParams "min" ["key","default"] 0 ⟨[],[]⟩>>=_) _ E s;refine ah (wpAny_of_eq (a:=[none,none]) rfl (ah (aA (ah (cY h (fun it s2 z=>?_) fun _ _ e=>e)))));obtain⟨J,fp,wr,n,P,St,B,rfl,W,st,hfp,hn,h0,hstep,hQ⟩:=z;refine ah (fQ ?_);have hL:s2.heap.objs.size∉fp:=fun hm=>gb _ (hfp _ hm);have hLw:s2.heap.objs.size∉wr:=fun z=>hL (W.sub _ z);rw[nm];refine aA ⟨xh (nc) _,?_⟩;refine xf (Dk) ?_;rw[Dl (nc) _];show wpAny _ A.in1 (seqItems? (.ref s2.heap.objs.size)>>=_) _ _ _;have hl0:=ci s2.heap (o:=⟨.type "list",none,.seq #[] 0,#[]⟩) rfl;refine ah (iG hl0 rfl ?_);show wpAny _ A.in1 (tryCatch (pyNext (.ref J)) _>>=_) _ _ _;refine ah (xg (W.item 0 _ _ _ hn (W.frame _ _ _ st fun b _ o e=>bb _ e) fun v h' tk' hP st' hk=>?_));have hl:=hk _ _ hLw hl0;show wpAny _ _ (updateSeq s2.heap.objs.size (fun _=>#[v,v])>>=_) _ _ _;refine ah ?_;refine rY hl rfl ?_;rw[nm];refine aA ⟨xh (nc) _,G4 (s:=s2) B _ W hL (fun b o e=>bU (aX e)) hstep (fun u h tk hB fr=>hQ u h tk hB fr) (n-1) 1 _ _ v _ (by omega) (W.frame _ _ _ st' fun b hb o e=>?_) (h0 v hP) (wP _ hl rfl) fun b o hb e=>(lL _ _ (kf (aX e))).trans (hk b o hb (bb _ e))⟩;exact(lL _ _ fun z:s2.heap.objs.size=b=>hL (z ▸ hb)).trans e
end
theorem uv{K:PySem.W.Frag}{H:Hp}{mu:List Addr}:∀{ps:List PV}{vs:List V}{us:List Value}{j:Nat}{u:Value},ai K H mu ps vs->az vs us->us[j]?=some u->∃p,ps[j]?=some p/\RV K H mu p u
 |[],vs,us,j,u,h,r,e=>by
  simp only[ai]at h;subst h;cases r;cases e
 |p::ps,vs,us,j,u,h,r,e=>by
  simp only[ai]at h;obtain⟨v,vs',rfl,h1,h2⟩:=h;cases r with
  |cons r1 r2=>
   cases j with
   |zero=>cases e;exact⟨p,rfl,_,r1,h1⟩
   |succ j=>
    obtain⟨p',e',r'⟩:=uv (j:=j) (u:=u) h2 r2 (by simpa using e);exact⟨p',by simpa using e',r'⟩
theorem G6{X:Cx}(hc:X.calm=true)(hu:X.A.units+64<cLine){pins:List (Addr×Obj)}{s:Shared}{sg:L2.St}{H:Hp}{mu:List Addr}{S:aa}{x:PV}{u:Value}{Q:Value->Shared->Prop}(I:Inv X pins sg H s)(m:ap X.K H mu S)(r:RV X.K H mu x u)(q:aH X pins sg H mu (RV X.K) (qy S x) Q) :
  wpAny (Mo X) X.A (call (.builtin "min") [u]) Q X.xe s:=by
 unfold qy at q;cases hx:iQ S x with
 |none=>rw[hx]at q;exact q.elim
 |some l=>
  rw[hx]at q;cases l with
  |nil=>exact q.elim
  |cons b l=>
   dsimp only at q;split at q
   ·rename_i hok;cases hm:iT b l with
    |none=>rw[hm]at q;exact q.elim
    |some res=>
     rw[hm]at q;dsimp only at q;obtain⟨h1,h2⟩:=zT hx;obtain⟨p,vs,rfl,_,h3,_,h4⟩:=gy I m r h1;refine G5 (mq (A:=X.A.in1) (I.ok.hd hc) I (.inl (h4 h2)) fun its rv J fp wr St s2 W st hfp hI=>?_);have hln:(b::l).length=its.length:=h3.length.trans rv.length;refine⟨J,fp,wr,its.length,_,St,fun j w=>∃p,RV X.K H mu p w/\aM p 20=true/\iT p ((b::l).drop j)=some res,rfl,W,st,hfp,by rw[←hln];exact Nat.succ_pos _,fun v hv=>?_,fun j w v h tk hj hv hB fr=>?_,fun w h tk hB fr=>?_⟩
     ·obtain⟨p',e,rp⟩:=uv h3 rv hv;cases e;exact⟨_,rp,k9 hok (bK ..),hm⟩
     ·obtain⟨p',e,rp⟩:=uv h3 rv hv;obtain⟨b',rb,ob,hb⟩:=hB;have hp':aM p' 20=true:=k9 hok (jm e);obtain⟨hlt,hge⟩:=bF.mp e;rw[sd hlt,hge,iT]at hb;cases hc':eG p' b' with
      |none=>rw[hc']at hb;cases hb
      |some c=>
       rw[hc']at hb;refine⟨c,G3 (hI h tk fr) 20 hp' ob rp rb (show X.A.units+1+20<cLine by omega) hc',?_⟩;cases c with
       |true=>exact⟨_,rp,hp',hb⟩
       |false=>exact⟨_,rb,ob,hb⟩
     ·obtain⟨b',rb,ob,hb⟩:=hB;rw[←hln,Dm,iT]at hb;cases hb;exact q.use (hI h tk fr) rb m (Step.refl _ _)
   ·exact q.elim
theorem G7{X:Cx}(hc:X.calm=true)(hu:X.A.units+64<cLine){pins:List (Addr×Obj)}{s:Shared}{sg:L2.St}{H:Hp}{mu:List Addr}{S:aa}{x:PV}{u:Value}{Q:Value->Shared->Prop}(I:Inv X pins sg H s)(m:ap X.K H mu S)(r:RV X.K H mu x u)(q:aH X pins sg H mu (RV X.K) (jI S x) Q) :
  wpAny (Mo X) X.A (call (.builtin "min") [u]) Q X.xe s:=by
 unfold jI at q;cases hx:dO S x with
 |none=>rw[hx]at q;dsimp only at q;unfold t8 at q;(exact G6 hc hu I m r q)
 |some l=>exact GQ hc I m r (by unfold l9;rw[hx]at q ⊢;exact q)
end Q
namespace Q
open PySem PySem.Spec PyProof.Rows L2 PySem.SeqAt
section
variable{X:Cx}{a b c:Expr}{f g h:Ro->aa->ac PV}{pos:Pos}
theorem ai.dropLast{K:PySem.W.Frag}{H:Hp}{mu:List Addr}{ps:List PV}{vs:List V}(h:ai K H mu ps vs):ai K H mu ps.dropLast vs.dropLast:=by
 rw[←tW ps,←tW vs,h.length];exact h.erase _
theorem G8{apos:Pos}(ha:DE X a f)(hbase:attributeBase a "pop" X.env (eval a X.env)=eval a X.env)(hline:(apos.endLine==pos.line)=true) :
  DE X (.Call (.Attribute a "pop" apos) [] [] pos) (fun ro S=>((f ro S).bind fun x S1=>cj S1 x).bind fun x S1=>jJ S1 x):=by
 intro pins s sg H mu ro S Q I m e q
 try dsimp only at q
 rw[ac.bind_assoc]at q;refine w_ hbase rfl hline rfl (ha pins s sg H mu ro S _ I m e (q.bind fun x S1 u H1 mu1 s1 I1 r1 m1 t1 q1=>?_));cases hc:cj S1 x with
 |bad=>rw[hc]at q1;exact q1.elim
 |exn c' S'=>exact(zZ hc).elim
 |ok y S'=>
  rw[hc,ac.bind_ok]at q1;obtain⟨rfl,rfl,n,xs,rfl,hS⟩:=zY hc;obtain⟨a',rfl,hn⟩:=jP r1;obtain⟨vs,h1,h2⟩:=m1.obj n a' _ hn hS;obtain⟨z,its,k',r,el,e'⟩:=I1.lstM h1;refine⟨"list","list.pop",Dn,PySem.F.slot_list_pop,rfl,⟨_,e',rfl⟩,fun b' hb'=>?_,?_⟩
  ·cases hb';exact⟨_,e',rfl⟩
  ·refine r_ rfl (evalArgs_nil3 ?_);simp only[jJ,hS]at q1;cases hp:xs[xs.length-1]? with
   |none=>rw[hp]at q1;exact q1.elim
   |some p=>
    rw[hp]at q1;dsimp only at q1;obtain⟨v,hv,rp⟩:=h2.get hp;rw[h2.length]at hv;exact bh (Fv (X:=X) pins s1 sg H1 (.ref a') [] (.ref a') [] (fun z H'=>z=v/\H'=ay H1 a' (.lst vs.dropLast)) I1 rfl .nil ⟨a',vs,v,rfl,rfl,h1,hv,rfl,rfl⟩) fun u' s' ⟨z,H',I',rl,e1,e2⟩=>by
     subst e1;subst e2;exact q1.use I' ⟨_,rl,(Step.write hn h1).rep rp⟩ (m1.write hn h1 h2.dropLast) (Step.write hn h1)
theorem G9{apos:Pos}(hu:X.A.units+64<cLine)(ha:DE X a f)(hb:DE X b g)(hd:DE X c h)(hbase:attributeBase a "get" X.env (eval a X.env)=eval a X.env)(hline:(apos.endLine==pos.line)=true)(hs:starEach [b,c] X.env=[(false,eval b X.env),(false,eval c X.env)]) :
  DE X (.Call (.Attribute a "get" apos) [b,c] [] pos) (fun ro S=>((f ro S).bind fun x S1=>e8 S1 x).bind fun x S1=>(g ro S1).bind fun y S2=>(h ro S2).bind fun z S3=>kU S3 x y z):=by
 intro pins s sg H mu ro S Q I m e q
 try dsimp only at q
 rw[ac.bind_assoc]at q;refine w_ hbase (by rw[hs];rfl) hline rfl (ha pins s sg H mu ro S _ I m e (q.bind fun x S1 u H1 mu1 s1 I1 r1 m1 t1 q1=>?_));unfold e8 at q1;cases hd1:bB S1 x with
 |none=>rw[hd1]at q1;exact q1.elim
 |some zd=>
  obtain⟨n,kvs⟩:=zd;rw[hd1,ac.bind_ok]at q1;obtain⟨v',rv',rp'⟩:=id r1;obtain⟨_,hS,a',ws,rfl,hn,h1,h2⟩:=gx m1 hd1 rp';obtain rfl:u=Value.ref a':=rv';obtain⟨t1',t2',_⟩:=zq I1 (.inl ⟨ws,.inl h1⟩);refine⟨"dict",_,PySem.F.plainAttrs_dict,C8,PySem.F.type_dict_get,t1',t2',?_⟩;rw[hs];refine r_ rfl (p5 ?_);show wpAny _ _ (spliced ((false,eval b X.env)::(false,eval c X.env)::[])) _ _ s1;refine gQ (hb pins s1 sg H1 mu1 ro S1 _ I1 m1 (t1.env e) (q1.bind fun y2 S2 w H2 mu2 s2 I2 r2 m2 t2 q2=>gQ (hd pins s2 sg H2 mu2 ro S2 _ I2 m2 ((t1.trans t2).env e) (q2.bind fun z3 S3 w3 H3 mu3 s3 I3 r3 m3 t3 q3=>kj ?_))));unfold kU at q3;cases hd2:bB S3 x with
  |none=>rw[hd2]at q3;exact q3.elim
  |some z=>
   obtain⟨n2,kvs2⟩:=z;cases hk:cO y2 with
   |none=>rw[hd2,hk]at q3;exact q3.elim
   |some k=>
    rw[hd2,hk]at q3;dsimp only at q3;obtain⟨v2,rv2,rp2⟩:=t3.rv r2;obtain⟨v3,rv3,rp3⟩:=r3;obtain⟨rfl,hS2,a2,ws2,e2,hn2,g1,g2⟩:=gx m3 hd2 ((t2.trans t3).rep rp');cases e2;obtain rfl:=ml hk rp2;refine FK (by omega) I3 (eX.k g1) rv2 rv3 fun w' s4 I4 rw'=>q3.use I4 ⟨_,rw',?_⟩ m3 (Step.refl _ _);cases hv:cC kvs2 k with
    |none=>rw[(g2.val k).2 hv];exact rp3
    |some p=>obtain⟨v,hw,hr⟩:=(g2.val k).1 p hv;rw[hw];exact hr
theorem G_(l:List Int):(firstMet (fun i=>l.getD i 0) l.length).length=fC l:=by
 unfold firstMet fC;congr 2;refine xi fun i=>?_;rw[bG];by_cases hi:i<l.length
 ·rw[lQ hi,a6 hi];simp[cJ,a6 hi]
 ·rw[nh (by rw[du];omega),nh (by omega)];rfl
theorem Ha{p p2 p3:Pos}(hc:X.calm=true)(ha:DE X a f)(g1:Gl X "len")(m1:X.mg "len"=none)(g2:Gl X "set")(m2:X.mg "set"=none)(hs:starEach [a] X.env=[(false,eval a X.env)]) :
  DE X (.Call (.Name "len" p) [.Call (.Name "set" p2) [a] [] p3] [] pos) (fun ro S=>(f ro S).bind fun x S1=>kW S1 x):=by
 intro pins s sg H mu ro S Q I m e q
 try dsimp only at q
 have b1:bootBuiltins "len"=some (.builtin "len"):=by decide +kernel
 have b2:bootBuiltins "set"=some (.type "set"):=by decide +kernel
 refine iD (g9 I g1 m1 b1 ?_ (by decide) (by decide));refine r_ rfl (p5 (gQ ?_));refine iD (g9 I g2 m2 b2 ?_ (by decide) (by decide));rw[hs];refine PyProof.Rows.callWith_type rfl (p5 (gQ (ha pins s sg H mu ro S _ I m e (q.bind fun x S1 u H1 mu1 s1 I1 r1 mm1 t1 q1=>kj ?_))));unfold kW at q1;cases hl:dO S1 x with
 |none=>rw[hl]at q1;exact q1.elim
 |some l=>
  rw[hl]at q1;dsimp only at q1;split at q1
  ·rename_i hz;obtain⟨pa,rfl,h1⟩:=oY I1 mm1 r1 hl;obtain⟨its,rv,hP,_⟩:=I1.list h1;have hia:=oX rv;have hlen:l.length=its.length:=by have:=rv.length;simpa using this
   have hd:=I1.ok.hd hc;refine PySem.call_set_list (items:=its.toArray) (ns:=l) hd ⟨_,hP.choose_spec.choose_spec.1,hP.choose_spec.choose_spec.2.1,hP.choose_spec.choose,hP.choose_spec.choose_spec.2.2.2⟩ (by simpa using hia) (by rw[aQ];unfold scanBound;omega) fun h' tk hS hk=>kj ?_;have hsz:its.toArray.size=l.length:=by rw[aQ,hlen]
   rw[hsz,G_]at hS;obtain⟨o,es,ep,t,ho,hex,hdt,_,_,hsb,hf,hn⟩:=hS;have hfit:(es.size:Int)<2 ^ 63:=by unfold scanBound at hsb;omega
   refine call_len_set ho hex hdt hf hfit ?_;rw[hn];have I2:Inv X pins sg H1 { s1 with heap:=h',toks:=tk }:=I1.kept fun b ob z=>hk b ob (aX z) z;exact q1.use (I2.tok _) ⟨.int _,⟨_,rfl⟩,by simp only[ak]⟩ mm1 (Step.refl _ _)
  ·exact q1.elim
end
end Q
namespace Q
open PySem PySem.Spec PyProof.Rows L2 PySem.SeqAt
noncomputable def dS(K:PySem.W.Frag)(mg:Str->Option Value)(F:Nat->List PV->aa->ac PV)(i np:Nat):Sp:=fun vs H Q E=>
 ∃mu S args,ap K H mu S/\ai K H mu args vs/\args.length=np/\match F i args S with
  |.ok p S'=>∀v H' mu',ak K H' mu' p v->ap K H' mu' S'->Step H mu H' mu'->Q v H'
  |.exn c S'=>∀C H' mu',mg c=some (.ref C)->ap K H' mu' S'->Step H mu H' mu'->E (.ref C) none H'
  |.bad=>False
noncomputable def cD(P:Program)(w:World):fA:=fun outer H s E e s'=>∃(ea C t:Addr)(H':Hp)(g:Heap)(l:List Addr),e=.ref ea/\s'.os=s.os/\AllBare s'.gens/\Un (c_ outer) [] H H' s.heap g/\bC P w H' g /\
 Heap.FlyingW (PySem.W.hideAll g l) outer ea (.ref C) (.ref t) s'.heap/\g.UpToSlots s'.heap/\(∀b∈l,H' b=none/\(b∈c_ outer\/s.heap.objs.size<=b))/\E (.ref C) none H'
theorem z7{X:Cx}:tU (cD X.prog X.w) X E0:=fun _ _ _ _ _ _ _ h=>by
 obtain⟨_,_,_,_,_,_,_,_,_,_,_,_,_,_,z⟩:=h;exact z.elim
noncomputable def Hb(stack:List Env)(lo:Nat)(H:Hp)(ea C:Addr)(g h:Heap):Prop:=
 (∃vs,Heap.MadeExcOf g h ea (.ref C) vs)\/∃t l,Heap.FlyingW (PySem.W.hideAll g l) stack ea (.ref C) (.ref t) h/\g.UpToSlots h/\∀b∈l,H b=none/\(b∈c_ stack\/lo<=b)
noncomputable def o0(X:Cx)(H:Hp)(mu:List Addr)(c:Str)(S':aa)(e:Value)(s':Shared):Prop:=
 ∃(ea C:Addr)(pins':List (Addr×Obj))(sg':L2.St)(H':Hp)(mu':List Addr)(g:Heap),e=.ref ea/\X.mg c=some (.ref C)/\Inv X pins' sg' H' { s' with heap:=g }/\ap X.K H' mu' S'/\Step H mu H' mu' /\
  Hb X.stack X.s₀.heap.objs.size H' ea C g s'.heap
theorem o0.step{X:Cx}{H H1:Hp}{mu mu1:List Addr}{c:Str}{S':aa}{e:Value}{s':Shared}(st:Step H mu H1 mu1)(h:o0 X H1 mu1 c S' e s'):o0 X H mu c S' e s':=by
 obtain⟨ea,C,p,sg,H',mu',g,h1,h2,h3,h4,h5,h6⟩:=h;exact⟨ea,C,p,sg,H',mu',g,h1,h2,h3,h4,st.trans h5,h6⟩
section
variable{X:Cx}{a b c:Expr}{f g h:Ro->aa->ac PV}{pos:Pos}
theorem qG{F:Nat->List PV->aa->ac PV}{i k np:Nat}{fa:Addr}{fd:FuncData}{prm:List Str}(G:bZ X.prog X.w X.K X.mg X.base (cD X.prog X.w) k fa fd prm (dS X.K X.mg F i np))(hr:bj k X.A)(hb:Binds X.K fd prm [])(hnp:∀(args:List PV) S,args.length≠np->F i args S=.bad)
  {pins:List (Addr×Obj)}{s:Shared}{sg:L2.St}{H:Hp}{mu:List Addr}{S:aa}{ps:List PV}{us:List Value}{Q:Value->Shared->Prop}(I:Inv X pins sg H s) (m:ap X.K H mu S) (r:cf X.K H mu ps us)
  (q:aH X pins sg H mu (RV X.K) (F i ps S) Q):wpAny (Mo X) X.A (call (.ref fa) us) Q X.xe s:=by
 obtain⟨vs,rv,rp⟩:=r;have hl:ps.length=np:=by
  by_cases z:ps.length=np
  ·exact z
  ·rw[hnp ps S z]at q;exact q.elim
 cases hF:F i ps S with
 |exn c' S'=>rw[hF]at q;exact q.elim
 |bad=>rw[hF]at q;exact q.elim
 |ok p S'=>
  rw[hF]at q;refine bh (E2 (X:=X) (Q:=fun v H'=>∃mu',ak X.K H' mu' p v/\ap X.K H' mu' S'/\Step H mu H' mu') G hr hb .nil z7 I rv ?_) fun u s' ⟨v,H',I',rl,mu',h1,h2,h3⟩=>?_
  ·rw[lJ];exact⟨mu,S,ps,m,rp,hl,by rw[hF];exact fun v H' mu' h1 h2 h3=>⟨mu',h1,h2,h3⟩⟩
  ·exact q.use I' ⟨v,rl,h1⟩ h2 h3
theorem Hc{F:Nat->List PV->aa->ac PV}{i k np:Nat}{fa:Addr}{fd:FuncData}{prm:List Str}{x:Str}{p:Pos}{es:List Expr}{gs:Ro->aa->ac (List PV)}(G:bZ X.prog X.w X.K X.mg X.base (cD X.prog X.w) k fa fd prm (dS X.K X.mg F i np))(hr:bj k X.A)(hb:Binds X.K fd prm [])(hnp:∀(args:List PV) S,args.length≠np->F i args S=.bad)
  (hg:Gl X x) (hm:X.mg x=some (.ref fa)) (hk:PySem.W.keepIn X.K (.ref fa)=true) (ha:DA X (a::es) gs) (hdb:(x==("__debug__":Str))=false) (he:starEach (a::es) X.env=(false,eval a X.env)::starEach es X.env) (hpl:(backTo pos (starEach es X.env)).any (·.1)=false) :
  DE X (.Call (.Name x p) (a::es) [] pos) (fun ro S=>(gs ro S).bind fun ps S1=>F i ps S1):=by
 intro pins s sg H mu ro S Q I m e q
 try dsimp only at q
 refine iD (lV I hg hm ?_ hdb);exact se (h₀:=X.base) I.ok.mod.kin hk (ha pos pins s sg H mu ro S _ I m e (q.bind fun ps S1 us H1 mu1 s1 I1 r1 m1 t1 q1=>⟨I1.kIn,qG G hr hb hnp I1 m1 r1 q1⟩)) he hpl
theorem Hd{F:Nat->List PV->aa->ac PV}{i k np:Nat}{fa:Addr}{fd:FuncData}{prm:List Str}{x:Str}{p:Pos}(G:bZ X.prog X.w X.K X.mg X.base (cD X.prog X.w) k fa fd prm (dS X.K X.mg F i np))(hr:bj k X.A)(hb:Binds X.K fd prm [])(hnp:∀(args:List PV) S,args.length≠np->F i args S=.bad)
  (hg:Gl X x) (hm:X.mg x=some (.ref fa)) (hk:PySem.W.keepIn X.K (.ref fa)=true) (hdb:(x==("__debug__":Str))=false) :
  DE X (.Call (.Name x p) [] [] pos) (fun ro S=>(ac.ok [] S).bind fun ps S1=>F i ps S1):=by
 intro pins s sg H mu ro S Q I m e q;refine iD (lV I hg hm ?_ hdb);exact Do I.kIn hk (qG (us:=[]) (ps:=[]) G hr hb hnp I m ⟨[],.nil,ai.nil⟩ q)
noncomputable def bY(X:Cx)(pins:List (Addr×Obj))(H:Hp)(mu:List Addr)(r:ac Fl)(Q:Flow->Shared->Prop):Prop:=
 match r with
 |.ok fl S'=>(match fl with
  |.next ro=>∀sg' H' mu' s',Inv X pins sg' H' s'->bd X.K H' mu' ro sg'->ap X.K H' mu' S'->Step H mu H' mu'->Q .next s'
  |.brk ro=>∀sg' H' mu' s',Inv X pins sg' H' s'->bd X.K H' mu' ro sg'->ap X.K H' mu' S'->Step H mu H' mu'->Q .brk s'
  |.cnt ro=>∀sg' H' mu' s',Inv X pins sg' H' s'->bd X.K H' mu' ro sg'->ap X.K H' mu' S'->Step H mu H' mu'->Q .cont s'
  |.ret p=>∀u sg' H' mu' s',Inv X pins sg' H' s'->RV X.K H' mu' p u->ap X.K H' mu' S'->Step H mu H' mu'->Q (.ret u) s')
 |.exn c S'=>∀e s',o0 X H mu c S' e s'->X.xe e s'
 |.bad=>False
theorem bY.step{pins:List (Addr×Obj)}{H H1:Hp}{mu mu1:List Addr}{r:ac Fl}{Q:Flow->Shared->Prop}(st:Step H mu H1 mu1)(h:bY X pins H mu r Q):bY X pins H1 mu1 r Q:=by
 cases r with
 |ok fl S=>
  cases fl with
  |next ro=>exact fun sg' H' mu' s' I e m t=>h sg' H' mu' s' I e m (st.trans t)
  |brk ro=>exact fun sg' H' mu' s' I e m t=>h sg' H' mu' s' I e m (st.trans t)
  |cnt ro=>exact fun sg' H' mu' s' I e m t=>h sg' H' mu' s' I e m (st.trans t)
  |ret p=>exact fun u sg' H' mu' s' I e m t=>h u sg' H' mu' s' I e m (st.trans t)
 |exn c S=>exact fun e s' x=>h e s' (x.step st)
 |bad=>exact h
theorem bY.bind{pins:List (Addr×Obj)}{sg:L2.St}{H:Hp}{mu:List Addr}{α β:Type}{rel:Hp->List Addr->α->β->Prop}{r:ac α}{k:α->aa->ac Fl}{Q:Flow->Shared->Prop}{R:β->Shared->Prop}(h:bY X pins H mu (r.bind k) Q)
  (go:∀a S1 b H1 mu1 s1,Inv X pins sg H1 s1->rel H1 mu1 a b->ap X.K H1 mu1 S1->Step H mu H1 mu1->bY X pins H1 mu1 (k a S1) Q->R b s1):aH X pins sg H mu rel r R:=by
 cases r with
 |ok a S=>exact fun b H' mu' s' I r m t=>go a S b H' mu' s' I r m t (h.step t)
 |exn c S=>exact h
 |bad=>exact h
noncomputable def DS(X:Cx)(st:Stmt)(f:Ro->aa->ac Fl):Prop:=
 ∀(pins:List (Addr×Obj))(s:Shared)(sg:L2.St)(H:Hp)(mu:List Addr)(ro:Ro)(S:aa)(Q:Flow->Shared->Prop),Inv X pins sg H s->ap X.K H mu S->bd X.K H mu ro sg->bY X pins H mu (f ro S) Q ->
  wpAny (Mo X) X.A (exec st X.env) Q X.xe s
noncomputable def ik(X:Cx)(sts:List Stmt)(f:Ro->aa->ac Fl):Prop:=
 ∀(pins:List (Addr×Obj))(s:Shared)(sg:L2.St)(H:Hp)(mu:List Addr)(ro:Ro)(S:aa)(Q:Flow->Shared->Prop),Inv X pins sg H s->ap X.K H mu S->bd X.K H mu ro sg->bY X pins H mu (f ro S) Q ->
  wpAny (Mo X) X.A (execs sts X.env) Q X.xe s
theorem bY.next{pins:List (Addr×Obj)}{H:Hp}{mu:List Addr}{ro:Ro}{S:aa}{Q:Flow->Shared->Prop}(h:bY X pins H mu (.ok (.next ro) S) Q) {sg' H' mu' s'} (I:Inv X pins sg' H' s') (e:bd X.K H' mu' ro sg') (m:ap X.K H' mu' S) (t:Step H mu H' mu'):Q .next s':=h sg' H' mu' s' I e m t
theorem He:ik X [] (fun ro S=>.ok (.next ro) S):=fun pins s sg H mu ro S Q I m e q=>wpAny_execs_nil (q.next I e m (Step.refl _ _))
noncomputable def uw(F G:Ro->aa->ac Fl):Ro->aa->ac Fl:=fun ro S=>(F ro S).andF fun fl S1=>match fl with
 |.next ro1=>G ro1 S1
 |.brk ro1=>.ok (.brk ro1) S1
 |.cnt ro1=>.ok (.cnt ro1) S1
 |.ret p=>.ok (.ret p) S1
theorem Hf{st:Stmt}{sts:List Stmt}{F G:Ro->aa->ac Fl}(h1:DS X st F)(h2:ik X sts G):ik X (st::sts) (uw F G):=by
 intro pins s sg H mu ro S Q I m e q;unfold uw at q;refine wpAny_execs_cons (h1 pins s sg H mu ro S _ I m e ?_);cases hF:F ro S with
 |exn c S'=>rw[hF]at q;exact q
 |bad=>rw[hF]at q;exact q
 |ok fl S1=>
  rw[hF]at q;cases fl with
  |next ro1=>exact fun sg' H' mu' s' I' e' m' t'=>h2 pins s' sg' H' mu' ro1 S1 Q I' m' e' (q.step t')
  |brk ro1=>exact q
  |cnt ro1=>exact q
  |ret p=>exact q
theorem Hg(ha:DE X a f):DS X (.Return (some a) pos) (fun ro S=>(f ro S).bind fun p S1=>.ok (.ret p) S1):=by
 intro pins s sg H mu ro S Q I m e q
 try dsimp only at q
 exact wpAny_Return_some (ha pins s sg H mu ro S _ I m e (q.bind fun p S1 u H1 mu1 s1 I1 r1 m1 t1 q1=>q1 u sg H1 mu1 s1 I1 r1 m1 (Step.refl _ _)))
theorem Hh:DS X (.Return none pos) (fun ro S=>.ok (.ret .non) S):=fun pins s sg H mu ro S Q I m e q=>wpAny_Return_none (q .none sg H mu s I ⟨.non,rfl,by simp only[ak]⟩ m (Step.refl _ _))
theorem Hi:DS X (.Pass pos) (fun ro S=>.ok (.next ro) S):=fun pins s sg H mu ro S Q I m e q=>wpAny_Pass (q.next I e m (Step.refl _ _))
theorem Hj:DS X (.Break pos) (fun ro S=>.ok (.brk ro) S):=fun pins s sg H mu ro S Q I m e q=>wpAny_Break (q sg H mu s I e m (Step.refl _ _))
theorem Hk:DS X (.Continue pos) (fun ro S=>.ok (.cnt ro) S):=fun pins s sg H mu ro S Q I m e q=>wpAny_Continue (q sg H mu s I e m (Step.refl _ _))
theorem Hl(ha:DE X a f)(hs:swapsWith a none pos.line X.env=pure false):DS X (.Expr a pos) (fun ro S=>(f ro S).bind fun _ S1=>.ok (.next ro) S1):=by
 intro pins s sg H mu ro S Q I m e q
 try dsimp only at q
 exact wpAny_Expr_any (ha pins s sg H mu ro S _ I m e (q.bind fun p S1 u H1 mu1 s1 I1 r1 m1 t1 q1=>q1.next I1 (t1.env e) m1 (Step.refl _ _))) I.quiet hs
theorem Hm {x j pos'}:DS X (.Expr (.Constant (.str x) j pos') pos) (fun ro S=>.ok (.next ro) S):=fun pins s sg H mu ro S Q I m e q=>
 wpAny_Expr (Calls.Constant_str (q.next (s':={ s with toks:=s.toks+1 }) (I.tok _) e m (Step.refl _ _))) I.quiet
theorem Hn{A B:List Stmt}{F G:Ro->aa->ac Fl}(hc:DT X c (bg h))(ha:ik X A F)(hb:ik X B G) :
  DS X (.If c A B pos) (fun ro S=>(h ro S).bind fun x S1=>match aJ S1 x with|some true=>F ro S1|some false=>G ro S1|none=>.bad):=by
 intro pins s sg H mu ro S Q I m e q
 try dsimp only at q
 refine wpAny_If (hc pins s sg H mu ro S _ I m e ?_);unfold bg;cases hh:h ro S with
 |exn c' S'=>rw[hh]at q;exact q
 |bad=>rw[hh]at q;exact q
 |ok x S1=>
  rw[hh]at q;simp only[ac.bind_ok]at q ⊢;cases ht:aJ S1 x with
  |none=>rw[ht]at q;exact q
  |some k=>
   rw[ht]at q;intro b' H' mu' s' I' r m' t;cases r;cases k with
   |true=>exact ha pins s' sg H' mu' ro S1 Q I' m' (t.env e) (q.step t)
   |false=>exact hb pins s' sg H' mu' ro S1 Q I' m' (t.env e) (q.step t)
noncomputable def fW(X:Cx)(i:Nat)(x:Str):Prop:=X.N[i]?=some x/\Loc X.env.scope x/\(X.fn x=true\/X.env.scope.names.lookup x=some .local)
inductive eT(X:Cx):List Expr->List Nat->Prop where
 |nil:eT X [] []
 |cons {i:Nat}{x:Str}{pos:Pos}{es:List Expr}{is:List Nat}(h:fW X i x) (t:eT X es is):eT X (.Name x pos::es) (i::is)
theorem eT.len:∀{es:List Expr}{is:List Nat},eT X es is->es.length=is.length
 |_,_,.nil=>rfl
 |_,_,.cons _ t=>by simp[eT.len t]
theorem eT.each{X:Cx}:∀{es:List Expr}{is:List Nat},eT X es is->(assignEach es X.env).length=es.length/\(assignEach es X.env).findIdx? (·.1)=none
 |_,_,.nil=>⟨rfl,rfl⟩
 |_,_,.cons (x:=x) (pos:=pos) (es:=es) h t=>by
  obtain⟨h1,h2⟩:=eT.each t;have e:assignEach (.Name x pos::es) X.env=(false,assign (.Name x pos) X.env)::assignEach es X.env:=rfl;rw[e];refine⟨by simp[h1],?_⟩;rw[List.findIdx?_cons];simp[h2]
theorem z8{pins:List (Addr×Obj)}(hN:X.N.Nodup){Q:Shared->Prop}{H:Hp}{mu:List Addr}{S:aa}:∀{es:List Expr}{is:List Nat},eT X es is->∀{s:Shared}{sg:L2.St}{ro:Ro}{ps:List PV}{us:List Value},ps.length=is.length ->
  Inv X pins sg H s->ap X.K H mu S->bd X.K H mu ro sg->cf X.K H mu ps us->(∀sg' s',Inv X pins sg' H s'->bd X.K H mu (fE is ps ro) sg'->Q s') ->
  wpAny (Mo X) X.A (assignInOrder ((assignEach es X.env).map (·.2)) us) (fun _ s'=>Q s') X.xe s
 |_,_,.nil,s,sg,ro,[],us,_,I,m,e,r,q=>by
  rw[k7 r];exact assignInOrder_nil (q sg s I e)
 |_,_,.nil,_,_,_,_::_,_,hl,_,_,_,_,_=>by simp at hl
 |_,_,.cons _ _,_,_,_,[],_,hl,_,_,_,_,_=>by simp at hl
 |_,_,.cons (i:=i) (x:=x) (pos:=pos) (es:=es) (is:=is) h t,s,sg,ro,p::ps,us,hl,I,m,e,r,q=>by
  obtain⟨u,us',rfl,r1,r2⟩:=iW r;have ea:(assignEach (.Name x pos::es) X.env).map (·.2)=assign (.Name x pos) X.env::(assignEach es X.env).map (·.2):=rfl;rw[ea];obtain⟨v,rv,rp⟩:=r1;refine p6 (Dp (g8 I hN h.1 h.2.1 rv (fun s1 I1=>?_) h.2.2));exact z8 hN t (by simpa using hl) I1 m (e.set i rp) r2 (fun sg' s' I' e'=>q sg' s' I' e')
theorem Ho{pins:List (Addr×Obj)}(hN:X.N.Nodup)(hc:X.calm=true){Q:Shared->Prop}{es:List Expr}{is:List Nat}{k:Nat}{pos:Pos}(h:eT X es is){s:Shared}{sg:L2.St}{H:Hp}{mu:List Addr}{S:aa}{ro:Ro}{ps:List PV}{u:Value}
  (hl:ps.length=is.length) (I:Inv X pins sg H s) (m:ap X.K H mu S) (e:bd X.K H mu ro sg) (r:RV X.K H mu (.tup ps) u) (q:∀sg' s',Inv X pins sg' H s'->bd X.K H mu (fE is ps ro) sg'->Q s') :
  wpAny (Mo X) X.A (assign (.Tuple es k pos) X.env u) (fun _ s'=>Q s') X.xe s:=by
 obtain⟨a',vs,rfl,h1,h2⟩:=ff r;obtain⟨its,rv,ht,hz⟩:=I.tuple h1;obtain⟨e1,e2⟩:=h.each;refine assign_Tuple_tuple (I.ok.hd hc) ht ?_ e2 fun h' hx=>?_
 ·rw[aQ,←rv.length,←h2.length,hl,e1];exact h.len
 ·have I1:Inv X pins sg H { s with heap:=h' }:=I.kept (t':=s.toks) fun b o e=>hx b o (bU (aX e)) e;exact z8 hN h hl I1 m e ⟨vs,by simpa using rv,h2⟩ q
inductive fi(X:Cx):Expr->Tg->Prop where
 |one {i:Nat}{x:Str}{pos:Pos}(h:fW X i x):fi X (.Name x pos) (.one i)
 |many {es:List Expr}{is:List Nat}{k:Nat}{pos:Pos}(h:eT X es is):fi X (.Tuple es k pos) (.many is)
theorem qH{pins:List (Addr×Obj)}(hN:X.N.Nodup)(hc:X.calm=true){Q:Shared->Prop}{tg:Expr}{t:Tg}(ht:fi X tg t){s:Shared}{sg:L2.St}{H:Hp}{mu:List Addr}{S:aa}{ro ro1:Ro}{p:PV}{u:Value}
  (hp:bx t p ro=some ro1) (I:Inv X pins sg H s) (m:ap X.K H mu S) (e:bd X.K H mu ro sg) (r:RV X.K H mu p u) (q:∀sg' s',Inv X pins sg' H s'->bd X.K H mu ro1 sg'->Q s') :
  wpAny (Mo X) X.A (assign tg X.env u) (fun _ s'=>Q s') X.xe s:=by
 cases ht with
 |@one i x pos h=>
  simp only[bx,bT]at hp;subst hp;obtain⟨v,rv,rp⟩:=r;exact Dp (g8 I hN h.1 h.2.1 rv (fun s1 I1=>q _ s1 I1 (e.set i rp)) h.2.2)
 |@many es is k pos h=>
  cases p with
  |tup ps=>
   simp only[bx]at hp;split at hp
   ·rename_i hl;cases hp;exact Ho hN hc h hl I m e r q
   ·cases hp
  |_=>cases hp
theorem z9{i:Nat}{x:Str}{pos':Pos}(hN:X.N.Nodup)(hx:fW X i x)(ha:DE X a f)(hs:swapsWith a (some (.Name x pos')) pos.line X.env=pure false) :
  DS X (.Assign [.Name x pos'] a pos) (fun ro S=>(f ro S).bind fun p S1=>.ok (.next (ro.set i (some p))) S1):=by
 intro pins s sg H mu ro S Q I m e q
 try dsimp only at q
 refine wpAny_Assign_Name (ha pins s sg H mu ro S _ I m e (q.bind fun p S1 u H1 mu1 s1 I1 r1 m1 t1 q1=>?_)) hs;obtain⟨v,rv,rp⟩:=r1;exact g8 I1 hN hx.1 hx.2.1 rv (fun s2 I2=>q1.next I2 ((t1.env e).set i rp) m1 (Step.refl _ _)) hx.2.2
theorem z_{es:List Expr}{is:List Nat}{k:Nat}{pos':Pos}(hN:X.N.Nodup)(hc:X.calm=true)(ht:eT X es is)(ha:DE X a f)(hs:swapsWithSole [.Tuple es k pos'] a pos.line X.env=pure false)(hw:swappedStores [.Tuple es k pos'] a X.env=pure none) :
  DS X (.Assign [.Tuple es k pos'] a pos) (fun ro S=>(f ro S).bind fun p S1=>match bx (.many is) p ro with|some ro1=>.ok (.next ro1) S1|none=>.bad):=by
 intro pins s sg H mu ro S Q I m e q
 try dsimp only at q
 refine wpAny_Assign_stores (ha pins s sg H mu ro S _ I m e (q.bind fun p S1 u H1 mu1 s1 I1 r1 m1 t1 q1=>?_)) hs hw;cases hp:bx (.many is) p ro with
 |none=>rw[hp]at q1;exact q1.elim
 |some ro1=>
  rw[hp]at q1;exact qH hN hc (fi.many (k:=k) (pos:=pos') ht) hp I1 m1 (t1.env e) r1 fun sg' s' I' e'=>q1.next I' e' m1 (Step.refl _ _)
theorem Hq{i j:Nat}{x y:Str}{px py pt:Pos}{kt k2:Nat}{pt2:Pos}{gs:Ro->aa->ac (List PV)}(hN:X.N.Nodup)(hc:X.calm=true)(hi:fW X i x)(hj:fW X j y)(hij:i≠j)(ha:DA X [a,b] gs)
  (hs:swapsWithSole [.Tuple [.Name x px,.Name y py] kt pt] (.Tuple [a,b] k2 pt2) pos.line X.env=pure false) (hw:swappedStores [.Tuple [.Name x px,.Name y py] kt pt] (.Tuple [a,b] k2 pt2) X.env=pure (some [x,y])) :
  DS X (.Assign [.Tuple [.Name x px,.Name y py] kt pt] (.Tuple [a,b] k2 pt2) pos) (fun ro S=>(gs ro S).bind fun ps S1=>if ps.length=2 then .ok (.next (fE [i,j] ps ro)) S1 else .bad):=by
 intro pins s sg H mu ro S Q I m e q
 try dsimp only at q
 rw[exec_Assign_arm];refine ah (p7 ?_);rw[hs];refine ah (aA ?_);rw[av (by decide)];refine ah (Tuple_ (ha _ pins s sg H mu ro S _ I m e (q.bind fun ps S1 us H1 mu1 s1 I1 r1 m1 t1 q1=>?_)));by_cases hl:ps.length=2
 ·rw[ag hl]at q1
  match ps,hl with
  |[p1,p2],_=>
   obtain⟨u1,u2,rfl,⟨v1,rv1,rp1⟩,⟨v2,rv2,rp2⟩⟩:=mn r1;refine fQ ?_ (by show 2<=sizeLine;decide);have I2:Inv X pins sg H1 { s1 with heap:=s1.heap.push { cls:=.type "tuple",data:=.seq [u1,u2].toArray } }:=I1.kept (t':=s1.toks) fun b o e=>bb _ e;rw[hw];refine ah (aA ?_);show wpAny (model X.prog X.w) X.A (do rule "assign.swapped-stores";let items ←unpackItems (.ref s1.heap.objs.size) 2 none;assignInOrder [fun v=>bindName X.env y v,fun v=>bindName X.env x v] items.reverse;pure Flow.next) _ _ _
   refine ah (m9 (ah (unpackItems_tuple (items:=#[u1,u2]) (I.ok.hd hc) (IsTup.new s1.heap _) fun h' hx'=>?_)));have I3:=I2.kept (h':=h') (t':=s1.toks) fun b o e=>hx' b o (bU (aX e)) e;show wpAny _ _ (assignInOrder [fun v=>bindName X.env y v,fun v=>bindName X.env x v] [u2,u1]>>=fun _=>pure Flow.next) _ _ _;refine ah (p6 (sh (g8 I3 hN hj.1 hj.2.1 rv2 (fun s2 I4=>?_) hj.2.2)));refine p6 (sh (g8 I4 hN hi.1 hi.2.1 rv1 (fun s3 I5=>assignInOrder_nil (aA ?_)) hi.2.2));rw[xj _ _ (a7 hij)]at I5;exact q1.next I5 (((t1.env e).set i rp1).set j rp2) m1 (Step.refl _ _)
 ·rw[av hl]at q1;exact q1.elim
theorem Hr{K:PySem.W.Frag}{H:Hp}{mu:List Addr}{p p' p'':PV}{us:List Value}(r:cf K H mu [p,p',p''] us):∃u u' u'',us=[u,u',u'']/\RV K H mu p u/\RV K H mu p' u'/\RV K H mu p'' u'':=by
 obtain⟨u,us',rfl,h1,h2⟩:=iW r;obtain⟨u',u'',rfl,h3,h4⟩:=mn h2;exact⟨u,u',u'',rfl,h1,h3,h4⟩
theorem Hs{i j l:Nat}{x y z:Str}{px py pz pt:Pos}{kt k2:Nat}{pt2:Pos}{gs:Ro->aa->ac (List PV)}(hN:X.N.Nodup)(hc:X.calm=true)(hi:fW X i x)(hj:fW X j y)(hl:fW X l z)(hij:i≠j)(hil:i≠l)(hjl:j≠l)(ha:DA X [a,b,c] gs)
  (hs:swapsWithSole [.Tuple [.Name x px,.Name y py,.Name z pz] kt pt] (.Tuple [a,b,c] k2 pt2) pos.line X.env=pure false) (hw:swappedStores [.Tuple [.Name x px,.Name y py,.Name z pz] kt pt] (.Tuple [a,b,c] k2 pt2) X.env=pure (some [x,y,z])) :
  DS X (.Assign [.Tuple [.Name x px,.Name y py,.Name z pz] kt pt] (.Tuple [a,b,c] k2 pt2) pos) (fun ro S=>(gs ro S).bind fun ps S1=>if ps.length=3 then .ok (.next (fE [i,j,l] ps ro)) S1 else .bad):=by
 intro pins s sg H mu ro S Q I m e q
 try dsimp only at q
 rw[exec_Assign_arm];refine ah (p7 ?_);rw[hs];refine ah (aA ?_);rw[av (by decide)];refine ah (Tuple_ (ha _ pins s sg H mu ro S _ I m e (q.bind fun ps S1 us H1 mu1 s1 I1 r1 m1 t1 q1=>?_)));by_cases hn:ps.length=3
 ·rw[ag hn]at q1
  match ps,hn with
  |[p1,p2,p3],_=>
   obtain⟨u1,u2,u3,rfl,⟨v1,rv1,rp1⟩,⟨v2,rv2,rp2⟩,⟨v3,rv3,rp3⟩⟩:=Hr r1;refine fQ ?_ (by show 3<=sizeLine;decide);have I2:Inv X pins sg H1 { s1 with heap:=s1.heap.push { cls:=.type "tuple",data:=.seq [u1,u2,u3].toArray } }:=I1.kept (t':=s1.toks) fun b o e=>bb _ e;rw[hw];refine ah (aA ?_);show wpAny (model X.prog X.w) X.A (do rule "assign.swapped-stores";let items ←unpackItems (.ref s1.heap.objs.size) 3 none;assignInOrder [fun v=>bindName X.env z v,fun v=>bindName X.env y v,fun v=>bindName X.env x v] items.reverse;pure Flow.next) _ _ _
   refine ah (m9 (ah (unpackItems_tuple (items:=#[u1,u2,u3]) (I.ok.hd hc) (IsTup.new s1.heap _) fun h' hx'=>?_)));have I3:=I2.kept (h':=h') (t':=s1.toks) fun b o e=>hx' b o (bU (aX e)) e;show wpAny _ _ (assignInOrder [fun v=>bindName X.env z v,fun v=>bindName X.env y v,fun v=>bindName X.env x v] [u3,u2,u1]>>=fun _=>pure Flow.next) _ _ _;refine ah (p6 (sh (g8 I3 hN hl.1 hl.2.1 rv3 (fun s2 I4=>?_) hl.2.2)));refine p6 (sh (g8 I4 hN hj.1 hj.2.1 rv2 (fun s3 I5=>?_) hj.2.2));refine p6 (sh (g8 I5 hN hi.1 hi.2.1 rv1 (fun s4 I6=>assignInOrder_nil (aA ?_)) hi.2.2));rw[xj _ _ (a7 hij),xj _ _ (a7 hil),xj _ _ (a7 hjl)]at I6;exact q1.next I6 ((((t1.env e).set i rp1).set j rp2).set l rp3) m1 (Step.refl _ _)
 ·rw[av hn]at q1;exact q1.elim
end
end Q
namespace Q
open PySem PySem.Spec PyProof.Rows L2 PySem.SeqAt
section
variable{X:Cx}{a b c:Expr}{f g h:Ro->aa->ac PV}{pos:Pos}
noncomputable def Ht(K:PySem.W.Frag)(ks:List ao)(H:Hp)(mu:List Addr)(ps:List PV)(ws:List (Value×Value)):Prop:=∃vs:List V,vs.length=ks.length/\ai K H mu ps vs/\VV ((ks.zip vs).map fun kv=>(kV kv.1,kv.2)) ws
noncomputable def DD(X:Cx)(keys:List (Option Expr))(es:List Expr)(ks:List ao)(gs:Ro->aa->ac (List PV)):Prop:=
 ∀(pos:Pos)(pins:List (Addr×Obj))(s:Shared)(sg:L2.St)(H:Hp)(mu:List Addr)(ro:Ro)(S:aa)(Q:List (Value×Value)->Shared->Prop),Inv X pins sg H s->ap X.K H mu S->bd X.K H mu ro sg ->
  aH X pins sg H mu (Ht X.K ks) (gs ro S) Q->wpAny (Mo X) X.A (evalPairs (pairTrees keys es X.env pos)) Q X.xe s
theorem Hu:DD X [] [] [] (fun _ S=>.ok [] S):=fun pos pins s sg H mu ro S Q I m e q=>pairTrees_nil_walk (q.use I ⟨[],rfl,ai.nil,.nil⟩ m (Step.refl _ _))
theorem Hv{k:Expr}{key:ao}{keys:List (Option Expr)}{es:List Expr}{ks:List ao}{gs:Ro->aa->ac (List PV)}(hk:PE X k (tC (kV key)))(ha:DE X a f)(hr:DD X keys es ks gs) :
  DD X (some k::keys) (a::es) (key::ks) (fun ro S=>(f ro S).bind fun p S1=>(gs ro S1).bind fun ps S2=>.ok (p::ps) S2):=by
 intro pos pins s sg H mu ro S Q I m e q
 try dsimp only at q
 refine pairTrees_cons_walk (bh (hk pins s sg H (fun w H'=>w=kV key/\H'=H) I ⟨rfl,rfl⟩) fun uk s0 ⟨w0,H0,I0,rk,e1,e2⟩=>?_);subst e1;subst e2;refine ha pins s0 sg H0 mu ro S _ I0 m e (q.bind fun x S1 u H1 mu1 s1 I1 r1 m1 t1 q1=>?_);refine hr pos pins s1 sg H1 mu1 ro S1 _ I1 m1 (t1.env e) (q1.bind fun ys S2 w H2 mu2 s2 I2 r2 m2 t2 q2=>?_);obtain⟨v,h1,h2⟩:=t2.rv r1;obtain⟨vs,h3,h4,h5⟩:=r2;exact q2.use I2 ⟨v::vs,by simp[h3],ai.cons h2 h4,.cons ⟨rk,h1⟩ h5⟩ m2 (Step.refl _ _)
theorem Aa{K:PySem.W.Frag}{H:Hp}{mu:List Addr}:∀{ks:List ao}{ps:List PV}{vs:List V},ps.length=ks.length->ai K H mu ps vs->aI K H mu (ks.zip ps) (ks.zip vs)
 |[],ps,vs,h,r=>by simp only[List.zip_nil_left];exact aI.nil
 |k::ks,p::ps,vs,h,r=>by
  obtain⟨v,vs',rfl,h1,h2⟩:=r.uncons;exact aI.cons h1 (Aa (by simpa using h) h2)
 |k::ks,[],vs,h,r=>by simp at h
theorem ux{S:aa}{K:PySem.W.Frag}{H:Hp}{mu:List Addr}(m:ap K H mu S)(p:Addr):(mu++[p])[S.length]?=some p:=by rw[←m.len];simp
theorem Hw:DE X (.Dict [] [] pos) (fun ro S=>(ac.ok ([]:List PV) (S++[.dct []])).bind fun ps S1=>fb S.length [] ps S1):=by
 intro pins s sg H mu ro S Q I m e q;simp only[ac.bind_ok]at q;have hS:(S++[MO.dct []])[S.length]?=some (.dct []):=by simp
 have hd:fb S.length [] [] (S++[MO.dct []])=.ok (.ref S.length) (S++[.dct []]):=by
  unfold fb;rw[ag ⟨jl _,rfl⟩,hS];congr 1;simp[kP]
 rw[hd]at q;refine bh (FI (X:=X) (pos:=pos) pins s sg H (fun v H'=>∃p,H p=none/\v=.ref p/\H'=ay H p (.dK [])) I fun p hp=>⟨p,hp,rfl,rfl⟩) fun u s1 ⟨v,H1,I1,rv,p,hp,e1,e2⟩=>?_;subst e1;subst e2;exact q.use I1 ⟨.ref p,rv,by simp only[ak];exact⟨p,rfl,ux m p⟩⟩ (m.growG hp fun H' e' _=>⟨[],e',rfl,ai.nil⟩) (Step.grow hp)
theorem Hx{keys:List (Option Expr)}{es:List Expr}{ks:List ao}{gs:Ro->aa->ac (List PV)}(hd:DD X keys es ks gs)(hall:keys.all (·.isSome)=true)(hl:keys.length=es.length)(h0:keys≠[])(h15:keys.length<=15)(hks:ks.length=keys.length) :
  DE X (.Dict keys es pos) (fun ro S=>(gs ro (S++[.dct []])).bind fun ps S1=>fb S.length ks ps S1):=by
 intro pins s sg H mu ro S Q I m e q
 try dsimp only at q
 have hn:=I.hok.fresh (aF s.heap.objs.size);have I1:=I.laid (a:=s.heap.objs.size) (o:=.dK []) (h':=s.heap.push { cls:=.type "dict",data:=.dict #[] }) (t':=s.toks) (fun _ _ q=>bb _ q) (aF _) (zm s.heap I.big);have st:Step H mu (ay H s.heap.objs.size (.dK [])) (mu++[s.heap.objs.size]):=Step.grow hn;have m1:ap X.K (ay H s.heap.objs.size (.dK [])) (mu++[s.heap.objs.size]) (S++[.dct []]):=m.growG hn fun H' e' _=>⟨[],e',rfl,ai.nil⟩
 refine wpAny_Dict_walk (knd:=cz X.prog X.w) hall hl h0 h15 (hd pos pins _ sg _ _ ro _ _ I1 m1 (st.env e) ((q.step st).bind fun ps S1 ws H2 mu2 s2 I2 r2 m2 t2 q2=>?_));obtain⟨vs,l1,rp,rel⟩:=r2;unfold fb at q2;split at q2
 ·rename_i hc;split at q2
  ·rename_i hS;obtain⟨rs,cr,rk⟩:=zo (P:=X.prog) (w:=X.w) rel;have hmu:=t2.get (ux m s.heap.objs.size);obtain⟨ws0,e0,k0,_⟩:=m2.obj S.length _ _ hmu hS;have ew:ws0=[]:=by simpa using k0
   subst ew;obtain⟨z,hsys,vs0,r0,dd⟩:=kN I2.hok e0;cases r0;refine⟨rs,cr,dd,fun h' dd' hs=>?_⟩;have hz:(lY [] (ks.zip vs)).length<=sizeLine:=by
    have h1:=zn (ks.zip vs) [];rw[List.length_nil,xk]at h1;rw[cy];omega
   have he:∃q,h'.get? s.heap.objs.size=some q:=let ⟨q,_,_,hq,_⟩:=dd';⟨q,hq⟩
   have I3:=nE (t':=s2.toks+ws.length) I2 (by rw[e0];exact True.intro) hs he (qw hz hsys (rk.merge .nil) dd');exact q2.use I3 ⟨.ref s.heap.objs.size,rfl,by simp only[ak];exact⟨_,rfl,hmu⟩⟩ (m2.writeG hmu e0 (by simp) (by simp) fun H' e' st'=>⟨_,e',((aI.merge (Aa hc.2 rp) aI.nil).step st')⟩) (Step.writeG hmu e0 (by simp) (by simp))
  ·exact q2.elim
 ·exact q2.elim
noncomputable def o3(K:PySem.W.Frag)(c f:Str):Prop:=∀C,PySem.W.nsIn K mainGlobals c=some (some (.ref C))->jC K C/\nC K C f
theorem Hy{c f:Str}(hcl:o3 X.K c f)(ha:DE X a g)(hb:attributeBase a f X.env (eval a X.env)=eval a X.env):DE X (.Attribute a f pos) (fun ro S=>(g ro S).bind fun x S1=>bN S1 c x f):=by
 intro pins s sg H mu ro S Q I m e q
 try dsimp only at q
 refine EW hb (ha pins s sg H mu ro S _ I m e (q.bind fun x S1 u H1 mu1 s1 I1 r1 m1 t1 q1=>?_));unfold bN at q1;split at q1
 ·rename_i n fs hi;split at q1
  ·rename_i p hl;obtain⟨v',rv',rp'⟩:=id r1;obtain⟨_,hS,a',C,dx,ws,rfl,hn,h1,hC,h2⟩:=jQ m1 hi rp';obtain rfl:u=Value.ref a':=rv';obtain⟨v,hw,hr⟩:=(h2.look f).1 p hl;exact yU I1 h1 (hcl C hC).1 (hcl C hC).2 hw fun u' s2 I2 ru=>q1.use I2 ⟨v,ru,hr⟩ m1 (Step.refl _ _)
  ·exact q1.elim
 ·exact q1.elim
theorem Hz{c f:Str}{pos':Pos}(hcl:o3 X.K c f)(ha:DE X a g)(hv:DE X b h)(hs:swapsWith b (some (.Attribute a f pos')) pos.line X.env=pure false) :
  DS X (.Assign [.Attribute a f pos'] b pos) (fun ro S=>(h ro S).bind fun y S1=>(g ro S1).bind fun x S2=>(cm S2 c x f y).bind fun _ S3=>.ok (.next ro) S3):=by
 intro pins s sg H mu ro S Q I m e q
 try dsimp only at q
 refine plainObj_wpAny_Assign_Attribute (hv pins s sg H mu ro S _ I m e (q.bind fun y S1 u H1 mu1 s1 I1 r1 m1 t1 q1=>?_)) hs;refine ha pins s1 sg H1 mu1 ro S1 _ I1 m1 (t1.env e) (q1.bind fun x S2 w H2 mu2 s2 I2 r2 m2 t2 q2=>?_);unfold cm at q2;split at q2
 ·rename_i n fs hi;split at q2
  ·rename_i hl;obtain⟨v',rv',rp'⟩:=id r2;obtain⟨_,hS,a',C,dx,ws,rfl,hn,h1,hC,h2⟩:=jQ m2 hi rp';obtain rfl:w=Value.ref a':=rv';obtain⟨v,rv,rp⟩:=t2.rv r1;have hw:=h2.length;refine yV I2 h1 (hcl C hC).1 (hcl C hC).2 (by omega) rv fun s3 I3=>?_;have st:=Step.writeG (ho':=.ins C dx (bM f v ws)) hn h1 (by simp) (by simp);exact q2.next I3 (st.env ((t1.trans t2).env e)) (m2.writeG hn h1 (by simp) (by simp) fun H' e' st'=>⟨C,dx,_,e',hC,(h2.put rp).1,st'.reps (h2.put rp).2⟩) st
  ·exact q2.elim
 ·exact q2.elim
theorem HA{pins:List (Addr×Obj)}{s3:Shared}{sg:L2.St}{H3:Hp}{mu3:List Addr}{S3 S4:aa}{x z y:PV}{w w3 u:Value}{R:Shared->Prop}(hu:X.A.units+64<cLine)(I3:Inv X pins sg H3 s3)(m3:ap X.K H3 mu3 S3)(r1:RV X.K H3 mu3 y u)(r2:RV X.K H3 mu3 x w)(r3:RV X.K H3 mu3 z w3)
  (q3:dQ S3 x z y=.ok () S4) (go:∀H' mu' s',Inv X pins sg H' s'->ap X.K H' mu' S4->Step H3 mu3 H' mu'->R s'):wpAny (Mo X) X.A (setItem w w3 u) (fun _ s'=>R s') X.xe s3:=by
 obtain⟨v,rv,rp⟩:=r1;obtain⟨vx,rvx,rpx⟩:=r2;obtain⟨vz,rvz,rpz⟩:=r3;unfold dQ at q3;split at q3
 ·rename_i n;simp only[ak]at rpx;obtain⟨a',rfl,hn⟩:=rpx;obtain rfl:w=Value.ref a':=rvx;split at q3
  ·rename_i xs hS;obtain⟨vs,h1,h2⟩:=m3.obj n a' _ hn hS;split at q3
   ·rename_i kk;split at q3
    ·rename_i j hj;cases q3;simp only[ak]at rpz;subst rpz;rw[h2.length]at hj;exact bh (Fh (X:=X) pins s3 sg H3 (.ref a') (.int kk) v (.ref a') w3 u (fun H'=>H'=ay H3 a' (.lst (vs.set j v))) I3 rfl rvz rv ⟨a',vs,kk,j,rfl,rfl,h1,hj,rfl⟩) fun _ s' ⟨H',I',e1⟩=>by
      subst e1;exact go _ _ s' I' (m3.write hn h1 (ai.set rp j h2)) (Step.write hn h1)
    ·cases q3
   ·cases q3
  ·rename_i kvs hS;obtain⟨ws,h1,h2⟩:=m3.obj n a' _ hn hS;split at q3
   ·rename_i kk hk;split at q3
    ·rename_i hl;cases q3;obtain rfl:=ml hk rpz;have hw:ws.length=kvs.length:=aI.length h2;have hl':ws.length<sizeLine:=by rw[cy,hw];exact hl
     refine zl (by omega) I3 (nD.k h1 hl') rvz rv fun s' I'=>?_;have st:=Step.writeG (ho':=.dK (db ws kk v)) hn h1 (by simp) (by simp);have hp:=aI.put (k:=kk) rp (show aI X.K H3 mu3 kvs ws from h2);exact go _ _ s' I' (m3.writeG hn h1 (by simp) (by simp) fun H' e' st'=>⟨_,e',hp.1,st'.reps hp.2⟩) st
    ·cases q3
   ·cases q3
  ·cases q3
 ·cases q3
theorem HB{S:aa}{x z y:PV}:(∃S4,dQ S x z y=.ok () S4)\/dQ S x z y=.bad:=by
 unfold dQ
 repeat' split
 all_goals first|exact .inl ⟨_,rfl⟩|exact .inr rfl
theorem HC{i:Expr}{k:Ro->aa->ac PV}{pos':Pos}(hu:X.A.units+64<cLine)(ha:DE X a g)(hi:DE X i k)(hv:DE X b h)(hs:swapsWith b (some (.Subscript a i pos')) pos.line X.env=pure false) :
  DS X (.Assign [.Subscript a i pos'] b pos) (fun ro S=>(h ro S).bind fun y S1=>(g ro S1).bind fun x S2=>(k ro S2).bind fun z S3=>(dQ S3 x z y).bind fun _ S4=>.ok (.next ro) S4):=by
 intro pins s sg H mu ro S Q I m e q
 try dsimp only at q
 refine wpAny_Assign_Subscript (hv pins s sg H mu ro S _ I m e (q.bind fun y S1 u H1 mu1 s1 I1 r1 m1 t1 q1=>?_)) hs;refine ha pins s1 sg H1 mu1 ro S1 _ I1 m1 (t1.env e) (q1.bind fun x S2 w H2 mu2 s2 I2 r2 m2 t2 q2=>?_);refine hi pins s2 sg H2 mu2 ro S2 _ I2 m2 ((t1.trans t2).env e) (q2.bind fun z S3 w3 H3 mu3 s3 I3 r3 m3 t3 q3=>?_);have ee:=((t1.trans t2).trans t3).env e;rcases HB (S:=S3) (x:=x) (z:=z) (y:=y)with ⟨S4,h4⟩|h4
 ·rw[h4]at q3;exact HA hu I3 m3 ((t2.trans t3).rv r1) (t3.rv r2) r3 h4 fun H' mu' s' I' m' st=>bY.next q3 I' (st.env ee) m' st
 ·rw[h4]at q3;exact q3.elim
noncomputable def mv(K:PySem.W.Frag)(c m:Str)(fa:Addr):Prop:=∀C,PySem.W.nsIn K mainGlobals c=some (some (.ref C))->jC K C/\yT K C m fa
theorem qI{S S':aa}{c m:Str}{x y:PV}(h:bJ S c m x=.ok y S'):y=x/\S'=S/\∃n fs,fV S c x=some (n,fs)/\fs.lookup m=none:=by
 unfold bJ at h;split at h
 ·rename_i n fs hi;split at h
  ·rename_i hl;cases h;exact⟨rfl,rfl,n,fs,hi,hl⟩
  ·cases h
 ·cases h
theorem qJ{S S':aa}{c m:Str}{x:PV}{e:Str}(h:bJ S c m x=.exn e S'):False:=by
 unfold bJ at h;split at h
 ·split at h<;>cases h
 ·cases h
theorem HD{F:Nat->List PV->aa->ac PV}{i k np:Nat}{fa:Addr}{fd:FuncData}{prm:List Str}{c m:Str}{o e1:Expr}{apos:Pos}{es:List Expr}{gs:Ro->aa->ac (List PV)}{pl:Sem Bool}
  (G:bZ X.prog X.w X.K X.mg X.base (cD X.prog X.w) k fa fd prm (dS X.K X.mg F i np)) (hr:bj k X.A) (hb:Binds X.K fd prm []) (hnp:∀(args:List PV) S,args.length≠np->F i args S=.bad) (hc:mv X.K c m fa) (hk:PySem.W.keepIn X.K (.ref fa)=true)
  (ho:DE X o f) (ha:DA X (e1::es) gs) (hst:starEach (e1::es) X.env=(false,eval e1 X.env)::starEach es X.env) (hpl:(backTo pos (starEach es X.env)).any (·.1)=false)
  (ht:eval (.Call (.Attribute o m apos) (e1::es) [] pos) X.env=(do
   let ov ←eval o X.env
   standAt apos.atName
   let (f,first) ←holding [ov] (getMethod ov m pl)
   callWith pos f first (backTo pos (starEach (e1::es) X.env)) (backToKw pos (keywordEach [] X.env)))) :
  DE X (.Call (.Attribute o m apos) (e1::es) [] pos) (fun ro S=>((f ro S).bind fun x S1=>bJ S1 c m x).bind fun x S1=>(gs ro S1).bind fun ps S2=>F i (x::ps) S2):=by
 intro pins s sg H mu ro S Q I mm e q
 try dsimp only at q
 rw[ac.bind_assoc]at q;refine xl (pl:=pl) (ho pins s sg H mu ro S _ I mm e (q.bind fun x S1 u H1 mu1 s1 I1 r1 m1 t1 q1=>?_)) ht;cases hx:bJ S1 c m x with
 |bad=>rw[hx]at q1;exact q1.elim
 |exn c' S'=>exact(qJ hx).elim
 |ok y S'=>
  rw[hx,ac.bind_ok]at q1;obtain⟨rfl,rfl,n,fs,hi,hl⟩:=qI hx;obtain⟨v',rv',rp'⟩:=id r1;obtain⟨_,hS,a',C,dx,ws,rfl,hn,h1,hC,h2⟩:=jQ m1 hi rp';obtain rfl:u=Value.ref a':=rv';refine qr I1 h1 (hc C hC).1 (hc C hC).2 ((h2.look m).2 hl) ?_;refine se (first:=[.ref a']) (h₀:=X.base) I.ok.mod.kin hk (ha pos pins s1 sg H1 mu1 ro S' _ I1 m1 (t1.env e) (q1.bind fun ps S2 us H2 mu2 s2 I2 r2 m2 t2 q2=>⟨I2.kIn,?_⟩)) hst hpl
  obtain⟨vs,h3,h4⟩:=r2;exact qG G hr hb hnp I2 m2 ⟨.ref a'::vs,.cons rfl h3,ai.cons (t2.rep rp') h4⟩ q2
theorem HE{F:Nat->List PV->aa->ac PV}{i k np:Nat}{fa:Addr}{fd:FuncData}{prm:List Str}{c m:Str}{o:Expr}{apos:Pos}{pl:Sem Bool}
  (G:bZ X.prog X.w X.K X.mg X.base (cD X.prog X.w) k fa fd prm (dS X.K X.mg F i np)) (hr:bj k X.A) (hb:Binds X.K fd prm []) (hnp:∀(args:List PV) S,args.length≠np->F i args S=.bad) (hc:mv X.K c m fa) (hk:PySem.W.keepIn X.K (.ref fa)=true)
  (ho:DE X o f)
  (ht:eval (.Call (.Attribute o m apos) [] [] pos) X.env=(do
   let ov ←eval o X.env
   standAt apos.atName
   let (f,first) ←holding [ov] (getMethod ov m pl)
   callWith pos f first (backTo pos (starEach [] X.env)) (backToKw pos (keywordEach [] X.env)))) :
  DE X (.Call (.Attribute o m apos) [] [] pos) (fun ro S=>((f ro S).bind fun x S1=>bJ S1 c m x).bind fun x S1=>(ac.ok ([]:List PV) S1).bind fun ps S2=>F i (x::ps) S2):=by
 intro pins s sg H mu ro S Q I mm e q
 try dsimp only at q
 rw[ac.bind_assoc]at q;refine xl (pl:=pl) (ho pins s sg H mu ro S _ I mm e (q.bind fun x S1 u H1 mu1 s1 I1 r1 m1 t1 q1=>?_)) ht;cases hx:bJ S1 c m x with
 |bad=>rw[hx]at q1;exact q1.elim
 |exn c' S'=>exact(qJ hx).elim
 |ok y S'=>
  rw[hx,ac.bind_ok,ac.bind_ok]at q1;obtain⟨rfl,rfl,n,fs,hi,hl⟩:=qI hx;obtain⟨v',rv',rp'⟩:=id r1;obtain⟨_,hS,a',C,dx,ws,rfl,hn,h1,hC,h2⟩:=jQ m1 hi rp';obtain rfl:u=Value.ref a':=rv';refine qr I1 h1 (hc C hC).1 (hc C hC).2 ((h2.look m).2 hl) ?_;exact Do (first:=[.ref a']) I1.kIn hk (qG (us:=[.ref a']) (ps:=[y]) G hr hb hnp I1 m1 ⟨[.ref a'],.cons rfl .nil,ai.cons rp' ai.nil⟩ q1)
theorem HF{F:Nat->List PV->aa->ac PV}{i k np:Nat}{fa C:Addr}{fd:FuncData}{prm:List Str}{c:Str}(M:Mk X.K C fa)(hC:PySem.W.nsIn X.K mainGlobals c=some (some (.ref C)))
  (G:bZ X.prog X.w X.K X.mg X.base (cD X.prog X.w) k fa fd prm (dS X.K X.mg F i np)) (hr:bj (k+1) X.A) (hb:Binds X.K fd prm []) (hnp:∀(args:List PV) S,args.length≠np->F i args S=.bad)
  {pins:List (Addr×Obj)}{s:Shared}{sg:L2.St}{H:Hp}{mu:List Addr}{S:aa}{ps:List PV}{us:List Value}{Q:Value->Shared->Prop}(I:Inv X pins sg H s) (m:ap X.K H mu S) (r:cf X.K H mu ps us)
  (q:aH X pins sg H mu (RV X.K) (kY S.length (F i (.ref S.length::ps) (S++[.ins c []]))) Q):wpAny (Mo X) X.A (call (.ref C) us) Q X.xe s:=by
 obtain⟨vs,rv,rp⟩:=r;unfold kY at q;have hl:(PV.ref S.length::ps).length=np:=by
  by_cases z:(PV.ref S.length::ps).length=np
  ·exact z
  ·rw[hnp _ _ z]at q;exact q.elim
 cases hF:F i (.ref S.length::ps) (S++[.ins c []])with
 |exn c' S'=>rw[hF]at q;exact q.elim
 |bad=>rw[hF]at q;exact q.elim
 |ok p S'=>
  rw[hF,ac.bind_ok]at q;cases p with
  |non=>
   dsimp only at q;refine bh (E3 (X:=X) (dvs:=[]) (ds:=[]) (E:=E0) (Q:=fun v H'=>∃mu',RV X.K H' mu' (.ref S.length) (match v with|.ref a=>.ref a|_=>.none)/\v≠.non/\(∃a,v=.ref a)/\ap X.K H' mu' S'/\Step H mu H' mu') M G hr hb .nil z7 I rv (fun x dx hx hdx hne=>?_)) fun u s' ⟨v,H',I',rl,mu',h1,_,⟨a,ea⟩,h2,h3⟩=>?_
   ·have st1:Step H mu (ay H dx (.own x)) mu:=Step.laid hdx S;have m1:ap X.K (ay H dx (.own x)) mu S:=m.laid hdx;have hx1:ay H dx (.own x) x=none:=by rw[aR (a7 hne)];exact hx
    have st2:Step (ay H dx (.own x)) mu (ay (ay H dx (.own x)) x (.ins C dx [])) (mu++[x]):=Step.grow hx1;have m2:ap X.K (ay (ay H dx (.own x)) x (.ins C dx [])) (mu++[x]) (S++[.ins c []]):=m1.growG hx1 fun H' e' _=>⟨C,dx,[],e',hC,rfl,ai.nil⟩
    have hxx:(mu++[x])[S.length]?=some x:=ux m x;refine⟨mu++[x],S++[.ins c []],.ref S.length::ps,m2,?_,hl,?_⟩
    ·rw[lJ];exact ai.cons (by simp only[ak];exact⟨x,rfl,hxx⟩) ((st1.trans st2).reps rp)
    ·rw[hF];intro v H' mu' h1 h2 h3;simp only[ak]at h1;exact⟨h1,mu',⟨.ref x,rfl,by simp only[ak];exact⟨x,rfl,h3.get hxx⟩⟩,by simp,⟨x,rfl⟩,h2,(st1.trans st2).trans h3⟩
   ·subst ea;obtain rfl:u=Value.ref a:=rl;exact q.use I' h1 h2 h3
  |_=>exact q.elim
theorem HG{F:Nat->List PV->aa->ac PV}{i k np:Nat}{fa C:Addr}{fd:FuncData}{prm:List Str}{c:Str}{p:Pos}{e1:Expr}{es:List Expr}{gs:Ro->aa->ac (List PV)}(M:Mk X.K C fa)(hC:PySem.W.nsIn X.K mainGlobals c=some (some (.ref C)))
  (G:bZ X.prog X.w X.K X.mg X.base (cD X.prog X.w) k fa fd prm (dS X.K X.mg F i np)) (hr:bj (k+1) X.A) (hb:Binds X.K fd prm []) (hnp:∀(args:List PV) S,args.length≠np->F i args S=.bad)
  (hg:Gl X c) (hm:X.mg c=some (.ref C)) (ha:DA X (e1::es) gs) (hdb:(c==("__debug__":Str))=false) (he:starEach (e1::es) X.env=(false,eval e1 X.env)::starEach es X.env) (hpl:(backTo pos (starEach es X.env)).any (·.1)=false) :
  DE X (.Call (.Name c p) (e1::es) [] pos) (fun ro S=>(gs ro S).bind fun ps S1=>kY S1.length (F i (.ref S1.length::ps) (S1++[.ins c []]))):=by
 intro pins s sg H mu ro S Q I m e q
 try dsimp only at q
 refine iD (lV I hg hm ?_ hdb);exact se (h₀:=X.base) I.ok.mod.kin M.kp (ha pos pins s sg H mu ro S _ I m e (q.bind fun ps S1 us H1 mu1 s1 I1 r1 m1 t1 q1=>⟨I1.kIn,HF M hC G hr hb hnp I1 m1 r1 q1⟩)) he hpl
end
end Q
namespace Q
open PySem PySem.Spec PyProof.Rows L2 PySem.SeqAt
section
variable{X:Cx}{a b c:Expr}{f g h:Ro->aa->ac PV}{pos:Pos}
theorem uy{op:Operator}{o:eD}(hop:(op=.Add/\o=.add)\/(op=.Sub/\o=.sub)){pins:List (Addr×Obj)}{s:Shared}{sg:L2.St}{H:Hp}{mu:List Addr}{S:aa}{x y:PV}{u w:Value}{Q:Value->Shared->Prop}(I:Inv X pins sg H s)(m:ap X.K H mu S)(rx:RV X.K H mu x u)(ry:RV X.K H mu y w)
  (q:aH X pins sg H mu (RV X.K) (eS S o x y) Q):wpAny (Mo X) X.A (inplaceOp op u w) Q X.xe s:=by
 unfold eS at q;split at q
 ·rename_i i j;obtain⟨t,rfl⟩:=bO rx;obtain⟨t',rfl⟩:=bO ry;rcases hop with ⟨rfl,rfl⟩|⟨rfl,rfl⟩
  ·exact PyProof.Rows.iadd_int (q.use (I.tok _) ⟨.int _,⟨_,rfl⟩,by simp only[ak]⟩ m (Step.refl _ _))
  ·exact PyProof.Rows.isub_int (q.use (I.tok _) ⟨.int _,⟨_,rfl⟩,by simp only[ak]⟩ m (Step.refl _ _))
 ·exact q.elim
theorem HH{i:Nat}{x:Str}{pos':Pos}{op:Operator}{o:eD}(hop:(op=.Add/\o=.add)\/(op=.Sub/\o=.sub))(hN:X.N.Nodup)(hx:fW X i x)(ha:DE X a f) :
  DS X (.AugAssign (.Name x pos') op a pos) (fun ro S=>match ro[i]? with
   |some (some v)=>(f ro S).bind fun y S1=>(eS S1 o v y).bind fun z S2=>.ok (.next (ro.set i (some z))) S2
   |_=>.bad):=by
 intro pins s sg H mu ro S Q I m e q
 try dsimp only at q
 cases h1:ro[i]? with
 |none=>rw[h1]at q;exact q.elim
 |some ov=>
  cases ov with
  |none=>rw[h1]at q;exact q.elim
  |some p=>
   rw[h1]at q;dsimp only at q;obtain⟨v,h2,h3⟩:=e.val i p h1;obtain⟨mm,hn,hl⟩:=I.loc;have vis:nA X.env.scope x:=by rcases hx.2.1 with k|k;exact .inl k;exact .inr (.inl k)
   obtain⟨u,r,l⟩:=hl i x v hx.1 h2 vis;refine wpAny_AugAssign_Name ?_;have go:wpAny (Mo X) X.A (eval a X.env) (fun w s₂=>wpAny (Mo X) X.A (inplaceOp op u w) (fun r s₃=>wpAny (Mo X) X.A (storeName X.env x r) (fun _=>Q .next) X.xe s₃) X.xe s₂) X.xe s:=by
    refine ha pins s sg H mu ro S _ I m e (q.bind fun y S1 w H1 mu1 s1 I1 r1 m1 t1 q1=>?_);refine uy hop I1 m1 ⟨v,r,t1.rep h3⟩ r1 (q1.bind fun z S2 w2 H2 mu2 s2 I2 r2 m2 t2 q2=>?_);obtain⟨zv,rv,rp⟩:=r2;exact g8 I2 hN hx.1 hx.2.1 rv (fun s3 I3=>q2.next I3 (((t1.trans t2).env e).set i rp) m2 (Step.refl _ _)) hx.2.2
   rcases l with ⟨hk,hm⟩|⟨hk,cc,hc,hcell⟩
   ·exact wpAny_loadName_local I.ok.kind hk hn hm go
   ·rcases hk with hk|hk
    ·exact wpAny_loadName_cell I.ok.kind hk hc hcell go
    ·rcases hx.2.1 with k|k
     ·have:X.env.scope.names.lookup x=some .free:=hk;rw[k]at this;cases this
     ·have:X.env.scope.names.lookup x=some .free:=hk;rw[k]at this;cases this
theorem HI{c f:Str}{tpos:Pos}{op:Operator}{o:eD}(hop:(op=.Add/\o=.add)\/(op=.Sub/\o=.sub))(hcl:o3 X.K c f)(ha:DE X a g)(hv:DE X b h) :
  DS X (.AugAssign (.Attribute a f tpos) op b pos) (fun ro S=>(g ro S).bind fun x S1=>(bN S1 c x f).bind fun v S2=>(h ro S2).bind fun y S3=>(eS S3 o v y).bind fun z S4=>(cm S4 c x f z).bind fun _ S5=>.ok (.next ro) S5):=by
 intro pins s sg H mu ro S Q I m e q
 try dsimp only at q
 refine wpAny_AugAssign_AttributeAny (ha pins s sg H mu ro S _ I m e (q.bind fun x S1 u H1 mu1 s1 I1 r1 m1 t1 q1=>?_));unfold bN at q1;split at q1
 ·rename_i n fs hi;split at q1
  ·rename_i p hl;rw[ac.bind_ok]at q1;obtain⟨v',rv',rp'⟩:=id r1;obtain⟨_,hS,a',C,dx,ws,rfl,hn,h1,hC,h2⟩:=jQ m1 hi rp';obtain rfl:u=Value.ref a':=rv';obtain⟨v,hw,hr⟩:=(h2.look f).1 p hl;refine yU I1 h1 (hcl C hC).1 (hcl C hC).2 hw fun u' s2 I2 ru=>?_;refine hv pins s2 sg H1 mu1 ro S1 _ I2 m1 (t1.env e) (bY.bind q1 fun y S3 w H3 mu3 s3 I3 r3 m3 t3 q3=>?_);refine uy hop I3 m3 (t3.rv ⟨v,ru,hr⟩) r3 (bY.bind q3 fun z S4 w4 H4 mu4 s4 I4 r4 m4 t4 q4=>?_);unfold cm at q4;split at q4
   ·rename_i n' fs' hi';split at q4
    ·rename_i hl';obtain⟨_,hS',a2,C',dx',ws',e2,hn',h1',hC',h2'⟩:=jQ m4 hi' ((t3.trans t4).rep rp');cases e2;obtain⟨vz,rvz,rpz⟩:=r4;have hw':=h2'.length;refine yV I4 h1' (hcl C' hC').1 (hcl C' hC').2 (by omega) rvz fun s5 I5=>?_;have st:=Step.writeG (ho':=.ins C' dx' (bM f vz ws')) hn' h1' (by simp) (by simp);exact q4.next I5 (st.env (((t1.trans t3).trans t4).env e)) (m4.writeG hn' h1' (by simp) (by simp) fun H' e' st'=>⟨C',dx',_,e',hC',(h2'.put rpz).1,st'.reps (h2'.put rpz).2⟩) st
    ·exact q4.elim
   ·exact q4.elim
  ·exact q1.elim
 ·exact q1.elim
end
end Q
namespace Q
open PySem PySem.Spec PyProof.Rows L2 PySem.SeqAt
theorem Ab:∀{vs:List V}{us:List Value},us.length=vs.length->(∀(j:Nat) v u,vs[j]?=some v->us[j]?=some u->RelV v u)->az vs us
 |[],us,h,_=>by
  have:us=[]:=Dq.mp h;subst this;exact .nil
 |v::vs,[],h,_=>by simp at h
 |v::vs,u::us,h,r=>.cons (r 0 v u rfl rfl) (Ab (by simpa using h) fun j v' u' h1 h2=>r (j+1) v' u' (by simpa using h1) (by simpa using h2))
theorem HJ{P:Program}{w:World}{k:ao}{u:Value}(h:(cz P w).is k u=true):RelV (kV k) u:=by
 have h':iM k u=true:=h;cases k with
 |inl i=>cases u<;>simp only[iM,Value.isInt]at h'<;>first|cases h'|exact⟨_,by rw[show _=i from aB h']⟩|skip
 |inr x=>cases u<;>simp only[iM,Value.isStrOf]at h'<;>first|cases h'|exact⟨_,by rw[show _=x from aB h']⟩|skip
theorem Ac{K:PySem.W.Frag}{H:Hp}{mu:List Addr}:∀(ks:List ao),ai K H mu (ks.map eZ) (ks.map kV)
 |[]=>ai.nil
 |k::ks=>ai.cons (by cases k<;>simp only[eZ,kV,ak]) (Ac ks)
section
variable{X:Cx}
theorem Ad{P:Program}{w:World}{ws:List (ao×V)}{vs:List (ao×Value)}{acc:Array Value}(r:KV ws vs)(h:ItemsOf (fun i v=>∃k x,vs[i]?=some (k,x)/\(cz P w).is k v=true) acc vs.length):az ((ws.map (·.1)).map kV) acc.toList:=by
 have hl:vs.length=ws.length:=r.length.symm;refine Ab (by simp[h.1,hl]) fun j v u h1 h2=>?_;obtain⟨k,x,h3,h4⟩:=h.2 j u (by simpa using h2);have e:ws.map (·.1)=vs.map (·.1):=by
  clear h hl h1 h2 h3 h4
  induction r with
  |nil=>rfl
  |cons a b ih=>simp only[aZ];rw[a.1,ih]
 rw[e,cK,bG,h3]at h1;simp at h1;subst h1;exact HJ h4
theorem HK(hc:X.calm=true){pins:List (Addr×Obj)}{s:Shared}{sg:L2.St}{H:Hp}{mu:List Addr}{S:aa}{x:PV}{n:Nat}{kvs:List (ao×PV)}{u:Value}{Q:Value->Shared->Prop}(I:Inv X pins sg H s)(m:ap X.K H mu S)(rx:RV X.K H mu x u)(hd:bB S x=some (n,kvs))
  (q:aH X pins sg H mu (RV X.K) (.ok (.lst ((kvs.map (·.1)).map eZ)) S) Q):wpAny (Mo X) X.A (call (.type "list") [u]) Q X.xe s:=by
 obtain⟨v',rv',rp'⟩:=rx;obtain⟨_,hS,a,ws,rfl,hn,h1,h2⟩:=gx m hd rp';obtain rfl:u=Value.ref a:=rv';obtain⟨z,hsys,vs,rel,dd⟩:=kN I.hok h1;obtain⟨ep,da⟩:=dd.dictAt;have hl:vs.length=ws.length:=rel.length.symm;refine PySem.W.kdl_call (PySem.W.kdl_dict (ep:=ep) hsys) (I.ok.hd hc) da (by rw[hl];exact z) fun h' tk acc c' kp e it=>?_;have hp:=I.hok.fresh (aF s.heap.objs.size);have hv:=Ad rel it;have I1:Inv X pins sg (ay H s.heap.objs.size (.lst ((ws.map (·.1)).map kV))) { s with heap:=h',toks:=tk }:=I.laid kp (aF _) ⟨by simpa using z,acc.toList,c',hv,by simpa using e⟩;have ek:ws.map (·.1)=kvs.map (·.1):=h2.1;exact q.use I1 ⟨.ref _,rfl,iU m hp (by rw[ek];exact Ac _)⟩ (m.laid hp) (Step.laid hp S)
theorem HL{pins:List (Addr×Obj)}{s:Shared}{sg:L2.St}{H:Hp}{mu:List Addr}{S:aa}{its:List Value}{out:Array Value}{ns:List Int}{Q:Value->Shared->Prop}(I:Inv X pins sg H s)(m:ap X.K H mu S)(hi:IntsAre out.toList ns)(hn:ns.length<64)
  (q:aH X pins sg H mu (RV X.K) (.ok (.lst (ns.map PV.int)) S) Q):Q (.ref s.heap.objs.size) { s with heap:=sortedHeap (s.heap.push (seqObj "list" its.toArray 0)) s.heap.objs.size its out }:=by
 have hf:H s.heap.objs.size=none:=I.hok.fresh (aF _);obtain⟨e,he⟩:=sortedHeap_at (h:=s.heap.push (seqObj "list" its.toArray 0)) (a:=s.heap.objs.size) (vs:=its) (n:=0) (out:=out) (ci _ rfl);have hl:sizeLine=16777216:=cy;have I2:Inv X pins sg (ay H s.heap.objs.size (.lst (ns.map V.int))) { s with heap:=sortedHeap (s.heap.push (seqObj "list" its.toArray 0)) s.heap.objs.size its out }:=
  I.laid (t':=s.toks) (fun b u z=>by
   have z2:=aX z;rw[sortedHeap_old (bU z2) (by rw[size_push'];exact pY z2)];exact bb _ z) (aF _) ⟨by rw[aw];omega,out.toList,e,um hi,by simpa using he⟩
 exact q.use I2 ⟨.ref _,rfl,iU m hf (uo ns)⟩ (m.laid hf) (Step.laid hf S)
theorem Ae{K:PySem.W.Frag}{H:Hp}{mu:List Addr}:∀{ks:List ao}{l:List Int},de (ks.map eZ)=some l->ks.map kV=l.map V.int
 |[],l,h=>by cases h;rfl
 |.inr x::ks,l,h=>by simp[eZ,de]at h
 |.inl i::ks,l,h=>by
  simp only[aZ,eZ,de]at h;cases e:de (ks.map eZ)with
  |none=>rw[e]at h;cases h
  |some l'=>
   rw[e]at h;cases h;simp only[aZ,kV];rw[Ae (K:=K) (H:=H) (mu:=mu) e]
theorem HM(hc:X.calm=true){pins:List (Addr×Obj)}{s:Shared}{sg:L2.St}{H:Hp}{mu:List Addr}{S:aa}{x:PV}{n:Nat}{kvs:List (ao×PV)}{u:Value}{Q:Value->Shared->Prop}(I:Inv X pins sg H s)(m:ap X.K H mu S)(rx:RV X.K H mu x u)(hd:bB S x=some (n,kvs))
  (q:aH X pins sg H mu (RV X.K) (nG S kvs) Q):wpAny (Mo X) X.A (call (.builtin "sorted") [u]) Q X.xe s:=by
 obtain⟨v',rv',rp'⟩:=rx;obtain⟨_,hS,a,ws,rfl,hn,h1,h2⟩:=gx m hd rp';obtain rfl:u=Value.ref a:=rv';obtain⟨z,hsys,vs,rel,dd⟩:=kN I.hok h1;obtain⟨ep,da⟩:=dd.dictAt;have hl:vs.length=ws.length:=rel.length.symm;have ek:ws.map (·.1)=kvs.map (·.1):=h2.1;unfold nG at q;cases hx:de ((kvs.map (·.1)).map eZ)with
 |none=>rw[hx]at q;exact q.elim
 |some l=>
  rw[hx]at q;dsimp only at q;split at q
  ·rename_i hlen;have hki:=Ae (K:=X.K) (H:=H) (mu:=mu) hx;refine Calls.call_function_entry kind_sorted plain_sorted entry_sorted (args_sorted1 _) ?_;unfold Builtin.sorted;refine ah (aA ?_);refine ah (PySem.W.kdu_collect (PySem.W.kdl_dict (ep:=ep) hsys) (I.ok.hd hc) da (by rw[hl];exact z) fun h' tk acc kp it=>?_);have hv:=Ad rel it;rw[ek,hki]at hv;have hvl:=hv.length;have hsl:sizeLine=16777216:=cy;refine ah (wpAny_newList ?_ (by simp at hvl ⊢;omega));refine ah (jn (lK slot_list_sort ⟨_,ci _ rfl,rfl⟩ entry_list_sort (list_sort_tree (n:=0) (ci _ rfl) (oX hv) (by simp at hvl ⊢;omega) fun out ns' hi hp hs=>?_) (args_list_sort _)));have e:=zX hp hs;subst e;refine⟨_,rfl,aA ⟨_,rfl,?_⟩⟩;exact HL (s:={ s with heap:=h',toks:=tk }) (I.kept kp) m hi (by rw[hp.length_eq];exact hlen) q
  ·exact q.elim
theorem HN(hc:X.calm=true):dR X (.type "list") (fun S ps=>aC S .list ps):=by
 intro pins s sg H mu S ps us Q I m r q
 match ps,q with
 |[],q=>exact q.elim
 |_::_::_,q=>exact(ij q (ii rfl)).elim
 |[x],q=>
  obtain⟨u,rfl,rx⟩:=fg r;simp only[aC,dP]at q;cases hx:aE S x with
  |none=>
   rw[hx]at q;dsimp only at q;unfold t0 at q;cases hd:bB S x with
   |none=>rw[hd]at q;exact q.elim
   |some z=>rw[hd]at q;exact HK hc I m rx hd q
  |some xs=>
   rw[hx]at q;obtain⟨p,vs,rfl,h1,h2,h3,h4⟩:=gy I m rx hx;exact bh (za (X:=X) pins s sg H [.ref p] [.ref p] (fun w H'=>∃l,H l=none/\w=.ref l/\H'=ay H l (.lst vs)) I (.cons rfl .nil) ⟨p,vs,rfl,h1,fun l hl=>⟨l,hl,rfl,rfl⟩⟩) fun u' s' ⟨w,H',I',rl,l,hl,e1,e2⟩=>by
    subst e1;subst e2;cases rl;exact q.use I' ⟨.ref l,rfl,iU m hl h2⟩ (m.laid hl) (Step.laid hl S)
theorem HP(hc:X.calm=true):dR X (.builtin "sorted") (fun S ps=>aC S .sorted ps):=by
 intro pins s sg H mu S ps us Q I m r q
 match ps,q with
 |[],q=>exact q.elim
 |_::_::_,q=>exact(ij q (ii rfl)).elim
 |[x],q=>
  obtain⟨u,rfl,rx⟩:=fg r;simp only[aC,dP]at q;unfold nH at q;cases hd:bB S x with
  |none=>rw[hd]at q;exact GT I m rx q
  |some z=>rw[hd]at q;exact HM hc I m rx hd q
theorem HQ(hc:X.calm=true)(hu:X.A.units+64<cLine):dR X (.builtin "min") (fun S ps=>aC S .min2 ps):=by
 intro pins s sg H mu S ps us Q I m r q
 match ps,q with
 |[],q=>exact q.elim
 |[y],q=>
  obtain⟨u,rfl,rx⟩:=fg r;have k0:aH X pins sg H mu (RV X.K) (jI S y) Q->wpAny (Mo X) X.A (call (.builtin "min") [u]) Q X.xe s:=fun z=>G7 hc hu I m rx z;exact k0 q
 |y::z::_::_,q=>cases y<;>cases z<;>exact q.elim
 |[x,y],q=>
  obtain⟨u,u',rfl,rx,ry⟩:=mn r;cases x<;>cases y<;>first|exact q.elim|skip
  rename_i i j;obtain⟨t,rfl⟩:=bO rx;obtain⟨t',rfl⟩:=bO ry;exact bh (EO (X:=X) hc pins s sg H [.int i,.int j] _ (fun w H'=>w=.int (if j<i then j else i)/\H'=H) I (.cons ⟨t,rfl⟩ (.cons ⟨t',rfl⟩ .nil)) ⟨i,j,rfl,rfl,rfl⟩) fun u' s' ⟨w,H',I',rl,e1,e2⟩=>by
   subst e1;subst e2;exact q.use I' ⟨_,rl,by simp only[ak]⟩ m (Step.refl _ _)
theorem HR(hg:X.A.guards=some [])(hu:X.A.units+64<cLine):dR X (.builtin "repr") (fun S ps=>aC S .repr ps):=by
 intro pins s sg H mu S ps us Q I m r q
 match ps,q with
 |[],q=>exact q.elim
 |_::_::_,q=>exact(ij q (ii rfl)).elim
 |[x],q=>
  obtain⟨u,rfl,rx⟩:=fg r;simp only[aC,dP]at q;cases x with
  |tup xs=>
   unfold zu at q;dsimp only at q;split at q
   ·rename_i hc;obtain⟨v,rv,rp⟩:=rx;obtain⟨as,ra⟩:=iV I hc.1 rp rv;obtain⟨hl,hd⟩:=fe _ _ hc.1;obtain⟨a,rfl⟩:∃a,u=.ref a:=by
     rw[aS]at ra;cases ra;exact⟨_,rfl⟩
    have hsz:(aS (.tup xs)).shown.length<=sizeLine:=hc.2.2;exact repr_of_reads' ra hc.2.1 (PyData.noDict_hsm (PyData.hasDict_of_canLay _ hl)) hg (by omega) (fun b o e=>e) (fun h' t tk k=>q.use (I.kept k) ⟨.str _,⟨t,rfl⟩,by simp only[ak]⟩ m (Step.refl _ _)) hsz
   ·exact q.elim
  |_=>exact q.elim
variable{a b:Expr}{gs:Ro->aa->ac (List PV)}{pos:Pos}
variable{c:Expr}{f g h:Ro->aa->ac PV}
theorem HU{apos:Pos}(ha:DE X a f)(hb:DE X b g)(hd:DE X c h)(hbase:attributeBase a "pop" X.env (eval a X.env)=eval a X.env)(hline:(apos.endLine==pos.line)=true)(hs:starEach [b,c] X.env=[(false,eval b X.env),(false,eval c X.env)]) :
  DE X (.Call (.Attribute a "pop" apos) [b,c] [] pos) (fun ro S=>((f ro S).bind fun x S1=>e8 S1 x).bind fun x S1=>(g ro S1).bind fun y S2=>(h ro S2).bind fun z S3=>kT S3 x y z):=by
 intro pins s sg H mu ro S Q I m e q
 try dsimp only at q
 rw[ac.bind_assoc]at q;refine w_ hbase (by rw[hs];rfl) hline rfl (ha pins s sg H mu ro S _ I m e (q.bind fun x S1 u H1 mu1 s1 I1 r1 m1 t1 q1=>?_));unfold e8 at q1;cases hd1:bB S1 x with
 |none=>rw[hd1]at q1;exact q1.elim
 |some zd=>
  obtain⟨n,kvs⟩:=zd;rw[hd1,ac.bind_ok]at q1;obtain⟨v',rv',rp'⟩:=id r1;obtain⟨_,hS,a',ws,rfl,hn,h1,h2⟩:=gx m1 hd1 rp';obtain rfl:u=Value.ref a':=rv';obtain⟨t1',t2',_⟩:=zq I1 (.inl ⟨ws,.inl h1⟩);refine⟨"dict",_,PySem.F.plainAttrs_dict,C7,PySem.F.type_dict_pop,t1',t2',?_⟩;rw[hs];refine r_ rfl (p5 ?_);show wpAny _ _ (spliced ((false,eval b X.env)::(false,eval c X.env)::[])) _ _ s1;refine gQ (hb pins s1 sg H1 mu1 ro S1 _ I1 m1 (t1.env e) (q1.bind fun y2 S2 w H2 mu2 s2 I2 r2 m2 t2 q2=>gQ (hd pins s2 sg H2 mu2 ro S2 _ I2 m2 ((t1.trans t2).env e) (q2.bind fun z3 S3 w3 H3 mu3 s3 I3 r3 m3 t3 q3=>kj ?_))));unfold kT at q3;cases hd2:bB S3 x with
  |none=>rw[hd2]at q3;exact q3.elim
  |some z=>
   obtain⟨n2,kvs2⟩:=z;cases hk:cO y2 with
   |none=>rw[hd2,hk]at q3;exact q3.elim
   |some k=>
    rw[hd2,hk]at q3;dsimp only at q3;obtain⟨v2,rv2,rp2⟩:=t3.rv r2;obtain⟨rfl,hS2,a2,ws2,e2,hn2,g1,g2⟩:=gx m3 hd2 ((t2.trans t3).rep rp');cases e2;obtain rfl:=ml hk rp2;cases hv:cC kvs2 k with
    |none=>
     rw[hv]at q3;exact FE I3 g1 rv2 ((g2.val k).2 hv) fun s4 I4=>q3.use I4 r3 m3 (Step.refl _ _)
    |some p=>
     rw[hv]at q3;obtain⟨v,hw,hr⟩:=(g2.val k).1 p hv;exact FD I3 g1 rv2 hw (.inr ⟨_,rfl⟩) fun w' s4 I4 rw'=>by
      have st:=Step.writeG (ho':=.dK (jD ws2 k)) hn2 g1 (by simp) (by simp);exact q3.use I4 ⟨v,rw',st.rep hr⟩ (m3.writeG hn2 g1 (by simp) (by simp) fun H' e' st'=>⟨_,e',(g2.drop k).step st'⟩) st
theorem HV{i:Expr}(h:∀a b c d,i≠.Slice a b c d)(ov iv new:Value):augStore i ov iv new=(do holding [new,ov,iv] (setItem ov iv new);release [new,ov,iv] [];pure .next):=by
 cases i with
 |Slice=>exact absurd rfl (h _ _ _ _)
 |_=>rfl
theorem HW{i:Expr}{k:Ro->aa->ac PV}{tpos:Pos}{op:Operator}{o:eD}(hu:X.A.units+64<cLine)(hop:(op=.Add/\o=.add)\/(op=.Sub/\o=.sub))(ha:DE X a g)(hi:DE X i k)(hv:DE X b h)(hsl:∀a b c d,i≠.Slice a b c d) :
  DS X (.AugAssign (.Subscript a i tpos) op b pos) (fun ro S=>(g ro S).bind fun x S1=>(k ro S1).bind fun z S2=>(gv S2 x z).bind fun v S3=>(h ro S3).bind fun y S4=>(eS S4 o v y).bind fun w S5=>(jH S5 x z w).bind fun _ S6=>.ok (.next ro) S6):=by
 intro pins s sg H mu ro S Q I m e q
 try dsimp only at q
 refine wpAny_AugAssign_SubscriptAny (ha pins s sg H mu ro S _ I m e (q.bind fun x S1 u H1 mu1 s1 I1 r1 m1 t1 q1=>?_)) (HV hsl);refine hi pins s1 sg H1 mu1 ro S1 _ I1 m1 (t1.env e) (bY.bind q1 fun y S2 w H2 mu2 s2 I2 r2 m2 t2 q2=>?_);obtain⟨v',rv',rp'⟩:=t2.rv r1;obtain⟨v,rv,rp⟩:=id r2;unfold gv at q2;cases hd:bB S2 x with
 |none=>rw[hd]at q2;exact q2.elim
 |some z=>
  obtain⟨n,kvs⟩:=z;cases hk:cO y with
  |none=>rw[hd,hk]at q2;exact q2.elim
  |some key=>
   rw[hd,hk]at q2;dsimp only at q2;cases hv2:cC kvs key with
   |none=>rw[hv2]at q2;exact q2.elim
   |some p=>
    rw[hv2,ac.bind_ok]at q2;obtain⟨rfl,hS,a',ws,rfl,hn,h1,h2⟩:=gx m2 hd rp';obtain rfl:=ml hk rp;obtain rfl:u=Value.ref a':=rv';obtain⟨v3,hw,hr⟩:=(h2.val key).1 p hv2;have g2:eX H2 a' (kV key) (some v3):=by rw[←hw];exact eX.k h1
    refine zk (by omega) I2 g2 rv fun w' s3 I3 rw'=>?_;refine hv pins s3 sg H2 mu2 ro S2 _ I3 m2 ((t1.trans t2).env e) (bY.bind q2 fun y4 S4 w4 H4 mu4 s4 I4 r4 m4 t4 q4=>?_);refine uy hop I4 m4 (t4.rv ⟨v3,rw',hr⟩) r4 (bY.bind q4 fun z5 S5 w5 H5 mu5 s5 I5 r5 m5 t5 q5=>?_);unfold jH at q5;cases hd5:bB S5 (.ref n)with
    |none=>rw[hd5]at q5;exact q5.elim
    |some zd=>
     obtain⟨n5,kvs5⟩:=zd;rw[hd5,hk]at q5;dsimp only at q5;split at q5
     ·rename_i hlm;obtain⟨e5,hS5,a5,ws5,e6,hn5,h15,h25⟩:=gx m5 hd5 ((t4.trans t5).rep rp');cases e5;cases e6;obtain⟨vz,rvz,rpz⟩:=r5;have hw5:ws5.length=kvs5.length:=aI.length h25;have hl':ws5.length<sizeLine:=by rw[cy,hw5];exact hlm
      refine zl (by omega) I5 (nD.k h15 hl') rv rvz fun s' I'=>?_;have st:=Step.writeG (ho':=.dK (db ws5 key vz)) hn5 h15 (by simp) (by simp);have hp:=aI.put (k:=key) rpz (show aI X.K H5 mu5 kvs5 ws5 from h25);exact q5.next I' (st.env ((((t1.trans t2).trans t4).trans t5).env e)) (m5.writeG hn5 h15 (by simp) (by simp) fun H' e' st'=>⟨_,e',hp.1,st'.reps hp.2⟩) st
     ·exact q5.elim
theorem Af{hp:Heap}{y:Str}{i:Int}{P:Value->Prop}(hP:∀t,P (.int i t)):∀{D:List (Str×Int)},qx y D=some i->KTD.EachL hp y P (fS D)/\KTD.inKeys y (fS D)=true
 |[],h=>by cases h
 |(x,j)::D,h=>by
  unfold qx at h;split at h
  ·rename_i hx;cases h;exact⟨KTD.eachL_hit hx (KTD.opened_int hP),by simp[fS,KTD.inKeys,hx]⟩
  ·rename_i hx;obtain⟨h1,h2⟩:=Af hP h;exact⟨KTD.eachL_miss hx h1,by
    simp only[fS]at h2;simp[fS,KTD.inKeys,h2]⟩
noncomputable def mx(K:PySem.W.Frag)(D:List (Str×Int))(a:Addr):Prop:=KTD.tabLook (KTD.datLooks fun b=>K.lookup b) (fun b=>K.lookup b) a (fS D)=true
theorem HX{x:Str}{p:Pos}{D:List (Str×Int)}{a0:Addr}(hg:Gl X x)(hm:X.mg x=some (.ref a0))(ht:mx X.K D a0)(hx:(x==("__debug__":Str))=false)(hb:DE X b g)(hs:tV b) :
  DE X (.Subscript (.Name x p) b pos) (fun ro S=>(g ro S).bind fun k S1=>h7 D S1 k):=by
 intro pins s sg H mu ro S Q I m e q
 try dsimp only at q
 refine Subscript_ (bh (yN (X:=X) (v:=.ref a0) (pos:=p) hg hm rfl hx pins s sg H (fun w H'=>w=.ref a0/\H'=H) I ⟨rfl,rfl⟩) fun u s0 ⟨w0,H0,I0,rk,e1,e2⟩=>?_);subst e1;subst e2;obtain rfl:u=Value.ref a0:=rk;refine hb pins s0 sg H0 mu ro S _ I0 m e (q.bind fun y S1 w H1 mu1 s1 I1 r1 m1 t1 q1=>?_);unfold h7 at q1;split at q1
 ·rename_i y;split at q1
  ·rename_i i hi;obtain⟨t,rfl⟩:=uf r1;have hin:X.K.In s1.heap:=I1.kIn;have htt:KTD.TextTab s1.heap a0 (fS D):=KTD.text_of_look (fun b o z=>hin b o z) ht;obtain⟨h1,h2⟩:=Af (hp:=s1.heap) (P:=fun v=>Q v { s1 with toks:=s1.toks+1 }) (fun t=>q1.use (I1.tok _) ⟨.int i,⟨t,rfl⟩,by simp only[ak]⟩ m1 (Step.refl _ _)) hi;exact KTD.item_textA ⟨htt,fun b o z=>z⟩ (by simp[fS,KTD.plain]) h2 h1 (hs _ _)
  ·exact q1.elim
 ·exact q1.elim
end
end Q
namespace Q
open PySem PySem.Spec PyProof.Rows L2 PySem.SeqAt
structure TQ(P:Program)(w:World)(K:PySem.W.Frag)(tg:Expr)(im:Itm)(live:Hp->List Addr->Prop)(fp:List Addr)(it:Addr)(tn:Nat->Heap->Prop):Prop where
 mem:it∈fp
 obj:∀i h,tn i h->∀b∈fp,∃o,h.get? b=some o/\∀v,o.data≠.cell v
 keep:∀i h h',tn i h->(∀b∈fp,∀o,h.get? b=some o->h'.get? b=some o)->tn i h'
 stays:∀H mu H' mu',live H mu->Step H mu H' mu'->live H' mu'
 item:∀(X:Cx),X.prog=P->X.w=w->X.K=K->X.calm=true->∀(i:Nat)(p:PV)(pins:List (Addr×Obj))(s:Shared)(sg:L2.St)(H:Hp)(mu:List Addr)(S:aa)(E:Value->Shared->Prop),
  Inv X pins sg H s->ap K H mu S->(∀b∈fp,cA X pins H b)->tn i s.heap->live H mu->bw S im.ck=true->im.xs[i]?=some p ->
  wpAny (model P w) X.A (pyNext (.ref it)) (fun r s1=>∃u,r=some u /\
   wpAny (model P w) X.A (letOwnedTupleGo tg (.ref it) u) (fun _ s2=>∃H',Inv X pins sg H' s2/\RV K H' mu p u/\ap K H' mu S/\Step H mu H' mu/\tn (i+1) s2.heap/\∀b∈fp,H' b=none) E s1) E s
 done:∀(X:Cx),X.prog=P->X.w=w->X.K=K->X.calm=true->∀(pins:List (Addr×Obj))(s:Shared)(sg:L2.St)(H:Hp)(mu:List Addr)(S:aa)(E:Value->Shared->Prop),
  Inv X pins sg H s->ap K H mu S->(∀b∈fp,cA X pins H b)->tn im.xs.length s.heap->live H mu->bw S im.ck=true ->
  wpAny (model P w) X.A (pyNext (.ref it)) (fun r s1=>r=none/\Inv X pins sg H s1) E s
 self:∀(A:Around)(i:Nat)(s:Shared)(Q:Value->Shared->Prop)(E:Value->Shared->Prop),tn i s.heap->Q (.ref it) s->wpAny (model P w) A (pyIter (.ref it)) Q E s
theorem TQ.of{P:Program}{w:World}{K:PySem.W.Frag}{tg:Expr}{J:It}{fp:List Addr}{it:Addr}{tn:Nat->Heap->Prop}{im:Itm}{live:Hp->List Addr->Prop}(T:qp P w K tg J fp it tn)(st:∀H mu H' mu',live H mu->Step H mu H' mu'->live H' mu')
  (go:∀H mu S i p,ap K H mu S->live H mu->bw S im.ck=true->im.xs[i]?=some p->J.go i H/\∀x H',J.yld i H x H'->H'=H/\ak K H mu p x)
  (stop:∀H mu S,ap K H mu S->live H mu->bw S im.ck=true->J.stop im.xs.length H):TQ P w K tg im live fp it tn where
 mem:=T.mem
 obj:=T.obj
 keep:=T.keep
 stays:=st
 item:=by
  intro X h1 h2 h3 h4 i p pins s sg H mu S E I m hf ht hl hc hp;obtain⟨g1,g2⟩:=go H mu S i p m hl hc hp;refine bh (T.item X h1 h2 h3 h4 i pins s sg H E I hf ht g1) fun r s1 ⟨u,e,hu⟩=>⟨u,e,bh hu fun _ s2 ⟨x,H',I',rx,y,t',fr⟩=>?_⟩
  obtain⟨e1,e2⟩:=g2 x H' y;subst e1;exact⟨H',I',⟨x,rx,e2⟩,m,Step.refl _ _,t',fr⟩
 done:=by
  intro X h1 h2 h3 h4 pins s sg H mu S E I m hf ht hl hc;exact T.done X h1 h2 h3 h4 _ pins s sg H E I hf ht (stop H mu S m hl hc)
 self:=T.self
theorem HY{K:PySem.W.Frag}{tg:Expr}{P:Program}{w:World}{a it:Addr}{xs:List PV}{vs:List V}{H0:Hp}{mu0:List Addr}(h1:eY K H0 mu0 a vs)(h2:ai K H0 mu0 xs vs) :
  TQ P w K tg ⟨xs,none⟩ (fun H mu=>eY K H mu a vs/\ai K H mu xs vs) [it] it (fun i h=>h.IsListIter it a i):=by
 refine TQ.of (yO a it) (fun H mu H' mu' l s=>⟨s.lstV l.1,s.reps l.2⟩) (fun H mu S i p m l _ hp=>?_) (fun H mu S m l _=>⟨vs,l.1.sq,by rw[l.2.length];exact aF _⟩);obtain⟨v,e1,e2⟩:=l.2.get hp;exact⟨⟨vs,v,l.1.sq,e1⟩,fun x H' y=>⟨y.1,by
  have:=y.2 vs l.1.sq;rw[e1]at this;cases this;exact e2⟩⟩
theorem HZ{K:PySem.W.Frag}{tg:Expr}{P:Program}{w:World}{a it:Addr}{n:Nat}{xs:List PV} :
  TQ P w K tg ⟨xs,some (n,xs)⟩ (fun H mu=>mu[n]?=some a) [it] it (fun i h=>h.IsListIter it a i):=by
 refine TQ.of (yO a it) (fun H mu H' mu' l s=>s.get l) (fun H mu S i p m l hc hp=>?_) (fun H mu S m l hc=>?_)
 ·have hS:S[n]?=some (.lst xs):=by simpa [bw]using hc
  obtain⟨vs,g1,g2⟩:=m.obj n a _ l hS;obtain⟨v,e1,e2⟩:=g2.get hp;exact⟨⟨vs,v,br.of g1,e1⟩,fun x H' y=>⟨y.1,by
   have:=y.2 vs (br.of g1);rw[e1]at this;cases this;exact e2⟩⟩
 ·have hS:S[n]?=some (.lst xs):=by simpa [bw]using hc
  obtain⟨vs,g1,g2⟩:=m.obj n a _ l hS;exact⟨vs,br.of g1,by rw[g2.length];exact aF _⟩
theorem H6{K:PySem.W.Frag}{tg:Expr}{P:Program}{w:World}{a it:Addr}{xs:List PV}{vs:List V} :
  TQ P w K tg ⟨xs,none⟩ (fun H mu=>bv K H a vs/\ai K H mu xs vs) [it] it (fun i h=>h.IsTupleIter it a i):=by
 refine TQ.of (EE a it) (fun H mu H' mu' l s=>⟨s.sqT l.1,s.reps l.2⟩) (fun H mu S i p m l _ hp=>?_) (fun H mu S m l _=>⟨vs,l.1,by rw[l.2.length];exact aF _⟩);obtain⟨v,e1,e2⟩:=l.2.get hp;exact⟨⟨vs,v,l.1,e1⟩,fun x H' y=>⟨y.1,by
  have:=y.2 vs l.1;rw[e1]at this;cases this;exact e2⟩⟩
theorem H8{K:PySem.W.Frag}{tg:Expr}{P:Program}{w:World}{it:Addr}{lo:Int}{n:Nat} :
  TQ P w K tg ⟨bI lo n,none⟩ (fun _ _=>True) [it] it (fun i h=>IsRangeIter h it (lo+(i:Nat)*1) ((n:Int)-(i:Nat)) 1):=by
 refine TQ.of (EF it lo n) (fun _ _ _ _ _ _=>trivial) (fun H mu S i p m l _ hp=>?_) (fun H mu S m l _=>by show n<=_;simp[bI]);simp only[bI,bG]at hp;by_cases hi:i<n
 ·rw[lQ hi]at hp;cases hp;exact⟨hi,fun x H' y=>⟨y.1,by rw[y.2];simp only[ak]⟩⟩
 ·rw[nh (by simpa using hi)]at hp;cases hp
noncomputable def DI(X:Cx)(tg iter:Expr)(k:dJ)(f:Ro->aa->ac (List PV)):Prop:=
 ∀(pins:List (Addr×Obj))(s:Shared)(sg:L2.St)(H:Hp)(mu:List Addr)(ro:Ro)(S:aa)(Q:Value->Shared->Prop),Inv X pins sg H s->ap X.K H mu S->bd X.K H mu ro sg ->
  (match f ro S with
   |.ok ps S1=>(match a8 S1 k ps with
    |some im=>∀it fp tn live H1 mu1 s1,Inv X pins sg H1 s1->ap X.K H1 mu1 S1->Step H mu H1 mu1->TQ X.prog X.w X.K tg im live fp it tn->tn 0 s1.heap->(∀b∈fp,cA X pins H1 b)->live H1 mu1->Q (.ref it) s1
    |none=>False)
   |_=>False) ->
  wpAny (Mo X) X.A (eval iter X.env) (fun v s1=>wpAny (Mo X) X.A (pyIter v) Q X.xe s1) X.xe s
section
variable{X:Cx}{a b c:Expr}{f g h:Ro->aa->ac PV}{pos:Pos}{tg:Expr}
theorem H9(ha:DE X a f):DI X tg a .seq (fun ro S=>(f ro S).bind fun p S1=>(ac.ok ([]:List PV) S1).bind fun ps S2=>.ok (p::ps) S2):=by
 intro pins s sg H mu ro S Q I m e q;dsimp only at q;refine ha pins s sg H mu ro S _ I m e ?_;cases hf:f ro S with
 |exn c' S'=>rw[hf]at q;exact q
 |bad=>rw[hf]at q;exact q
 |ok p S1=>
  rw[hf]at q;simp only[ac.bind_ok,a8,h8,h_]at q;intro u H1 mu1 s1 I1 r1 m1 t1;cases hx:aE S1 p with
  |none=>rw[hx]at q;exact q.elim
  |some xs=>
   rw[hx]at q;dsimp only at q;have fresh:∀(o:Obj),∀b∈[s1.heap.objs.size],cA X pins H1 b:=fun o b hb=>by
    have e:b=s1.heap.objs.size:=by simpa using hb
    subst e;exact I1.fpOk (aF _) (I1.hok.fresh (aF _))
   cases p with
   |tup ys=>
    simp only[aE,bT]at hx;subst hx;obtain⟨a',vs,rfl,h1,h2⟩:=ff r1;obtain⟨its,rv,pl,hz⟩:=I1.tuple h1;refine km (show s1.heap.IsTuple a' its.toArray from pl) ?_;exact q _ _ _ _ H1 mu1 _ (I1.kept (t':=s1.toks) fun b o e=>bb _ e) m1 t1 (H6 (a:=a') (vs:=vs)) ⟨_,ci _ rfl,rfl,rfl⟩ (fresh default) ⟨h1,h2⟩
   |lst ys=>
    simp only[aE,bT]at hx;subst hx;obtain⟨a',vs,rfl,h1,h2⟩:=ie r1;obtain⟨its,rv,pl,hz⟩:=I1.list h1.sq;refine jo pl.isList ?_;exact q _ _ _ _ H1 mu1 _ (I1.kept (t':=s1.toks) fun b o e=>bb _ e) m1 t1 (HY h1 h2) ⟨_,ci _ rfl,rfl,rfl⟩ (fresh default) ⟨h1,h2⟩
   |ref n=>
    obtain⟨a',rfl,hn⟩:=jP r1;simp only[aE]at hx;cases hS:S1[n]? with
    |none=>rw[hS]at hx;cases hx
    |some o=>
     cases o with
     |lst zs=>
      rw[hS]at hx;simp only[bT]at hx;subst hx;obtain⟨vs,h1,h2⟩:=m1.obj n a' _ hn hS;obtain⟨its,rv,pl,hz⟩:=I1.list (br.of h1);refine jo pl.isList ?_;have eck:e9 S1 (.ref n)=some (n,zs):=by simp only[e9,hS]
      rw[eck]at q;exact q _ _ _ _ H1 mu1 _ (I1.kept (t':=s1.toks) fun b o e=>bb _ e) m1 t1 (HZ (a:=a')) ⟨_,ci _ rfl,rfl,rfl⟩ (fresh default) hn
     |_=>rw[hS]at hx;cases hx
   |_=>cases hx
theorem Ah{pins:List (Addr×Obj)}{sg:L2.St}{H:Hp}{s:Shared}{Q:Value->Shared->Prop}{E:Value->Shared->Prop}{lo hi:Int}{t u v:Tok}{tk:Nat}(I:Inv X pins sg H s)(h1:-(2 ^ 62)<=lo)(h2:lo<2 ^ 62)(h3:-(2 ^ 62)<=hi)(h4:hi<2 ^ 62)
  (q:∀it fp tn s1,Inv X pins sg H s1->TQ X.prog X.w X.K tg ⟨bI lo (hi-lo).toNat,none⟩ (fun _ _=>True) fp it tn->tn 0 s1.heap->(∀b∈fp,cA X pins H b)->Q (.ref it) s1) :
  wpAny (Mo X) X.A (pyIter (.ref s.heap.objs.size)) Q E { s with heap:=s.heap.push { cls:=.type "range",data:=.fields #[.int lo t,.int hi u,.int 1 v] },toks:=tk }:=by
 refine wpAny_pyIter_range (IsRange.new ..) (small_one h1 h2 h3 h4) ?_;have I1:Inv X pins sg H { s with heap:=s.heap.push { cls:=.type "range",data:=.fields #[.int lo t,.int hi u,.int 1 v] },toks:=tk }:=I.kept fun b o e=>bb _ e;refine q (s.heap.push { cls:=.type "range",data:=.fields #[.int lo t,.int hi u,.int 1 v] }).objs.size _ _ _ (I1.kept (t':=tk) fun b o e=>bb _ e) H8 ?_ (fun b hb=>?_)
 ·have e1:lo+((0:Nat):Int)*1=lo:=by simp
  have e2:(((hi-lo).toNat:Nat):Int)-((0:Nat):Int)=Builtin.Range.rangeSize lo hi 1:=by rw[rangeSize_one];split<;>omega
  show IsRangeIter _ _ (lo+((0:Nat):Int)*1) ((((hi-lo).toNat:Nat):Int)-((0:Nat):Int)) 1;rw[e1,e2];exact ci _ rfl
 ·have e:b=(s.heap.push { cls:=.type "range",data:=.fields #[.int lo t,.int hi u,.int 1 v] }).objs.size:=by simpa using hb
  subst e;exact I1.fpOk (aF _) (I1.hok.fresh (aF _))
theorem H_{p:Pos}{es:List Expr}{gs:Ro->aa->ac (List PV)}(hg:Gl X "range")(hm:X.mg "range"=none)(ha:DA X (a::es) gs)(he:starEach (a::es) X.env=(false,eval a X.env)::starEach es X.env)(hpl:(backTo pos (starEach es X.env)).any (·.1)=false) :
  DI X tg (.Call (.Name "range" p) (a::es) [] pos) .range gs:=by
 intro pins s sg H mu ro S Q I m e q;refine Call_ (g9 I hg hm boot_range (Dg (ha pos pins s sg H mu ro S _ I m e ?_) he hpl));cases hf:gs ro S with
 |exn c' S'=>rw[hf]at q;exact q
 |bad=>rw[hf]at q;exact q
 |ok ps S1=>
  rw[hf]at q;dsimp only at q;intro us H1 mu1 s1 I1 r1 m1 t1
  match ps,q with
  |[],q=>exact q.elim
  |[x],q=>
   obtain⟨u,rfl,rx⟩:=fg r1;cases x with
   |int j=>
    obtain⟨t,rfl⟩:=bO rx;simp only[a8,h8,h_]at q;split at q
    ·rename_i im hc;split at hc
     ·rename_i hj;cases hc;refine call_range_1 (Ah (tg:=tg) I1 (by omega) (by omega) hj.1 hj.2 fun it fp tn s2 I2 T st hf=>?_);rw[Int.sub_zero]at T;exact q it fp tn _ H1 mu1 s2 I2 m1 t1 T st hf trivial
     ·cases hc
    ·exact q.elim
   |_=>exact q.elim
  |[x,y],q=>
   obtain⟨u,u',rfl,rx,ry⟩:=mn r1;cases x with
   |int i=>
    cases y with
    |int j=>
     obtain⟨t,rfl⟩:=bO rx;obtain⟨t',rfl⟩:=bO ry;simp only[a8,h8,h_]at q;split at q
     ·rename_i im hc;split at hc
      ·rename_i hj;cases hc;refine call_range_2 (Ah (tg:=tg) I1 hj.1.1 hj.1.2 hj.2.1 hj.2.2 fun it fp tn s2 I2 T st hf=>?_);exact q it fp tn _ H1 mu1 s2 I2 m1 t1 T st hf trivial
      ·cases hc
     ·exact q.elim
    |_=>exact q.elim
   |_=>exact q.elim
  |x::y::z::w,q=>cases x<;>cases y<;>exact q.elim
noncomputable def uz(gs:Ro->aa->ac (List PV))(k:dJ)(t:Tg)(F:Ro->aa->ac Fl):Ro->aa->ac Fl:=fun ro S=>(gs ro S).bind fun ps S1=>match a8 S1 k ps with
 |some it=>ce F t it.ck it.xs ro S1
 |none=>.bad
theorem Ia{iter:Expr}{body:List Stmt}{k:dJ}{t:Tg}{gs:Ro->aa->ac (List PV)}{F:Ro->aa->ac Fl}(hp:PassesOwn (Mo X) X.A X.env X.xe)(hc:X.calm=true)(hN:X.N.Nodup)(hi:DI X tg iter k gs)(ht:fi X tg t)(hb:ik X body F)
  (hs:∀x,foldedSetIterable iter X.env x=pure x):DS X (.For tg iter body [] pos) (uz gs k t F):=by
 intro pins s sg H mu ro S Q I m e q;unfold uz at q;refine wpAny_For (hi pins s sg H mu ro S _ I m e ?_) hs;cases hg:gs ro S with
 |exn c' S'=>rw[hg]at q;exact q
 |bad=>rw[hg]at q;exact q
 |ok ps S1=>
  rw[hg]at q;simp only[ac.bind_ok]at q ⊢;cases him:a8 S1 k ps with
  |none=>rw[him]at q;exact q
  |some im=>
   rw[him]at q;intro it fp tn live H1 mu1 s1 I1 m1 t1 T st1 f1 l1;dsimp only at q;have stat:∀{H':Hp},(∀b∈fp,H' b=none)->∀b∈fp,cA X pins H' b:=fun hn b hb=>⟨hn b hb,(f1 b hb).2⟩
   refine codeAny_forLoop_any (fun n s'=>∃i sg' H' mu' ro' S',n=im.xs.length-i/\i<=im.xs.length/\Inv X pins sg' H' s'/\ap X.K H' mu' S'/\bd X.K H' mu' ro' sg'/\Step H mu H' mu'/\tn i s'.heap/\(∀b∈fp,H' b=none)/\live H' mu' /\
    bY X pins H' mu' (ce F t im.ck (im.xs.drop i) ro' S') Q) ?_ im.xs.length ⟨0,sg,H1,mu1,ro,S1,by simp,jl _,I1,m1,t1.env e,t1,st1,fun b hb=>(f1 b hb).1,l1,by rw[iC];exact q.step t1⟩
   rintro n s3 ⟨i,sg3,H3,mu3,ro3,S3,rfl,hle,I3,m3,e3,t3,st3,fr3,l3,q3⟩;by_cases hlt:i<im.xs.length
   ·have hd:im.xs.drop i=im.xs[i]::im.xs.drop (i+1):=sd hlt;rw[hd]at q3;unfold ce at q3;by_cases hck:bw S3 im.ck=true
    ·rw[ag hck]at q3;refine ni hp (bh (T.item X rfl rfl rfl hc i im.xs[i] pins s3 sg3 H3 mu3 S3 X.xe I3 m3 (stat fr3) st3 l3 hck (a6 hlt)) fun r s4 ⟨u,hr,h4⟩=>?_);subst hr;refine ni hp (bh h4 fun _ s5 ⟨H5,I5,r5,m5,t5,st5,fr5⟩=>?_);have I5':=I5.pinned (stat fr5) (T.obj _ _ st5);cases htg:bx t im.xs[i] ro3 with
     |none=>rw[htg]at q3;exact q3.elim
     |some ro4=>
      rw[htg]at q3;dsimp only at q3;have q5:=q3.step t5;refine ni hp (qH hN hc ht htg I5' m5 (t5.env e3) r5 fun sg6 s6 I6 e6=>?_);refine ni hp (hb _ s6 sg6 H5 mu3 ro4 S3 _ I6 m5 e6 ?_);cases hF:F ro4 S3 with
      |exn c' S'=>rw[hF]at q5;exact q5
      |bad=>rw[hF]at q5;exact q5
      |ok fl S7=>
       rw[hF]at q5;have again:∀{ro7:Ro}{sg7:L2.St}{H7:Hp}{mu7:List Addr}{s7:Shared},Inv X (pins++qq fp s5.heap) sg7 H7 s7->bd X.K H7 mu7 ro7 sg7->ap X.K H7 mu7 S7->Step H5 mu3 H7 mu7->bY X pins H5 mu3 (ce F t im.ck (im.xs.drop (i+1)) ro7 S7) Q ->
         ∃m,m<im.xs.length-i/\∃i sg' H' mu' ro' S',m=im.xs.length-i/\i<=im.xs.length/\Inv X pins sg' H' s7/\ap X.K H' mu' S'/\bd X.K H' mu' ro' sg'/\Step H mu H' mu'/\tn i s7.heap/\(∀b∈fp,H' b=none)/\live H' mu'/\bY X pins H' mu' (ce F t im.ck (im.xs.drop i) ro' S') Q:=
        fun {ro7 sg7 H7 mu7 s7} I7 e7 m7 t7 q7=>by
         refine⟨im.xs.length-(i+1),by omega,i+1,sg7,H7,mu7,ro7,S7,rfl,hlt,I7.unpinned,m7,e7,(t3.trans t5).trans t7,T.keep _ _ _ st5 fun b hb o e=>(I7.pin (b,o) (iz _ (iz _ (tQ hb e)))).1,fun b hb=>?_,T.stays _ _ _ _ (T.stays _ _ _ _ l3 t5) t7,q7.step t7⟩;obtain⟨o,e,d⟩:=T.obj _ _ st5 b hb;exact(I7.pin (b,o) (iz _ (iz _ (tQ hb e)))).2.1
       cases fl with
       |next ro7=>exact fun sg7 H7 mu7 s7 I7 e7 m7 t7=>again I7 e7 m7 t7 q5
       |cnt ro7=>exact fun sg7 H7 mu7 s7 I7 e7 m7 t7=>again I7 e7 m7 t7 q5
       |brk ro7=>exact fun sg7 H7 mu7 s7 I7 e7 m7 t7=>bY.next (X:=X) q5 I7.unpinned e7 m7 t7
       |ret p=>exact fun u7 sg7 H7 mu7 s7 I7 r7 m7 t7=>q5 u7 sg7 H7 mu7 s7 I7.unpinned r7 m7 t7
    ·rw[av hck]at q3;exact q3.elim
   ·have hz:i=im.xs.length:=by omega
    subst hz;rw[Dm]at q3;unfold ce at q3;by_cases hck:bw S3 im.ck=true
    ·rw[ag hck]at q3;refine ni hp (bh (T.done X rfl rfl rfl hc pins s3 sg3 H3 mu3 S3 X.xe I3 m3 (stat fr3) st3 l3 hck) fun r s4 ⟨hr,I4⟩=>?_);subst hr;exact wpAny_execs_nil (q3.next I4 e3 m3 (Step.refl _ _))
    ·rw[av hck]at q3;exact q3.elim
theorem Ib{body:List Stmt}{F:Ro->aa->ac Fl}{wf:Nat}(hp:PassesOwn (Mo X) X.A X.env X.xe)(hc:DT X c (bg h))(hb:ik X body F):DS X (.While c body [] pos) (fun ro S=>cQ h F wf ro S):=by
 intro pins s sg H mu ro S Q I m e q;refine wpAny_While (codeAny_whileLoop (fun n s'=>∃sg' H' mu' ro' S',Inv X pins sg' H' s'/\ap X.K H' mu' S'/\bd X.K H' mu' ro' sg'/\bY X pins H' mu' (cQ h F n ro' S') Q) ?_ wf ⟨sg,H,mu,ro,S,I,m,e,q⟩);rintro n s1 ⟨sg1,H1,mu1,ro1,S1,I1,m1,e1,q1⟩;cases n with
 |zero=>exact q1.elim
 |succ n=>
  unfold cQ at q1;refine ni hp (hc pins s1 sg1 H1 mu1 ro1 S1 _ I1 m1 e1 ?_);unfold bg;cases hh:h ro1 S1 with
  |exn c' S'=>rw[hh]at q1;exact q1
  |bad=>rw[hh]at q1;exact q1
  |ok x S2=>
   rw[hh]at q1;simp only[ac.bind_ok]at q1 ⊢;cases ht:aJ S2 x with
   |none=>rw[ht]at q1;exact q1
   |some k=>
    rw[ht]at q1;intro b' H2 mu2 s2 I2 r2 m2 t2;cases r2;cases k with
    |false=>
     show wpAny _ _ (execs [] _) _ _ _;exact wpAny_execs_nil (bY.next (X:=X) q1 I2 (t2.env e1) m2 t2)
    |true=>
     refine ni hp (hb pins s2 sg1 H2 mu2 ro1 S2 _ I2 m2 (t2.env e1) ?_);have q2:=q1.step t2;dsimp only at q2;cases hF:F ro1 S2 with
     |exn c' S'=>rw[hF]at q2;exact q2
     |bad=>rw[hF]at q2;exact q2
     |ok fl S3=>
      rw[hF]at q2;cases fl with
      |next ro3=>exact fun sg3 H3 mu3 s3 I3 e3 m3 t3=>⟨n,fO n,sg3,H3,mu3,ro3,S3,I3,m3,e3,bY.step t3 q2⟩
      |cnt ro3=>exact fun sg3 H3 mu3 s3 I3 e3 m3 t3=>⟨n,fO n,sg3,H3,mu3,ro3,S3,I3,m3,e3,bY.step t3 q2⟩
      |brk ro3=>exact fun sg3 H3 mu3 s3 I3 e3 m3 t3=>bY.next (X:=X) q2 I3 e3 m3 t3
      |ret p=>exact fun u3 sg3 H3 mu3 s3 I3 r3 m3 t3=>q2 u3 sg3 H3 mu3 s3 I3 r3 m3 t3
end
end Q
namespace Q
open PySem PySem.Spec PyProof.Rows L2 PySem.SeqAt
section
variable{prog:Program}{w:World}{A:Around}{E:Value->Shared->Prop}{s:Shared}
theorem Ic{jt t:Addr}{n:Nat}{items:Array Value}{x:Value}{Q:Value->Shared->Prop}(hit:s.heap.IsTupleIter jt t n)(ht:s.heap.IsTuple t items)(hx:items[n]?=some x)
  (hQ:∀h',h'.IsTupleIter jt t (n+1)->Heap.SameBut jt s.heap h'->Q x { s with heap:=h' }):wpAny (model prog w) A (Builtin.SmallTypes.nextOf (.ref jt)) Q E s:=by
 obtain⟨ob,hob,hcl,hdt⟩:=id hit;obtain⟨ot,hot,_,nt,hdtt⟩:=ht;unfold Builtin.SmallTypes.nextOf;refine ah (mZ (name:=Str.ofString "__next__") hit.typeIs xm (lK xm hit.typeIs F.entry_tuple_iterator_next ?_ (F.args_tuple_iterator_next_1 _)));show wpAny _ _ (field (.ref jt) 0>>=_) _ _ s;refine ah (eu hob hdt (x:=.ref t) rfl ?_);show wpAny _ _ (if (Value.ref t==Value.none)=true then _ else _) _ _ s
 rw[av (fun z:(Value.ref t==Value.none)=true=>by cases z)];show wpAny _ _ (field (.ref jt) 1>>=_) _ _ s;refine ah (eu hob hdt (x:=.int n 0) rfl ?_);show wpAny _ _ (seqItems? (.ref t)>>=_) _ _ s;refine ah (iG hot hdtt ?_);simp only[Int.toNat_natCast,hx];refine ah (wpAny_setField hob hdt (by simp) (aA ⟨x,rfl,aA (hQ _ ?_ (Heap.SameBut.update ..))⟩));refine⟨_,wP _ hob (Obj.isFreed_of_fields (Obj.data_mapFields hdt _)),(Obj.cls_mapFields ..).trans hcl,?_⟩;rw[Obj.data_mapFields hdt];simp[rawInt]
theorem Ie{jt t:Addr}{n:Nat}{items:Array Value}{Q:Value->Shared->Prop}(hh:A.handled=none)(hit:s.heap.IsTupleIter jt t n)(ht:s.heap.IsTuple t items)(hx:items[n]?=none)
  (hE:∀h' e,Heap.ExtBut jt s.heap h'->(∃o,h'.get? e=some o/\o.cls=.type "StopIteration")->E (.ref e) { s with heap:=h' }):wpAny (model prog w) A (Builtin.SmallTypes.nextOf (.ref jt)) Q E s:=by
 obtain⟨ob,hob,hcl,hdt⟩:=id hit;obtain⟨ot,hot,_,nt,hdtt⟩:=ht;unfold Builtin.SmallTypes.nextOf;refine ah (mZ (name:=Str.ofString "__next__") hit.typeIs xm (lK xm hit.typeIs F.entry_tuple_iterator_next ?_ (F.args_tuple_iterator_next_1 _)));show wpAny _ _ (field (.ref jt) 0>>=_) _ _ s;refine ah (eu hob hdt (x:=.ref t) rfl ?_);show wpAny _ _ (if (Value.ref t==Value.none)=true then _ else _) _ _ s
 rw[av (fun z:(Value.ref t==Value.none)=true=>by cases z)];show wpAny _ _ (field (.ref jt) 1>>=_) _ _ s;refine ah (eu hob hdt (x:=.int n 0) rfl ?_);show wpAny _ _ (seqItems? (.ref t)>>=_) _ _ s;refine ah (iG hot hdtt ?_);simp only[Int.toNat_natCast,hx];refine ah (m9 (ah (wpAny_setField hob hdt (by simp) ?_)));show wpAny _ _ (newExc (.type "StopIteration") []>>=_) _ _ _;refine ah ?_;simp only[newExc,newTuple];refine ah (fQ ?_ (by size_fits));refine ah (m:=firstArgMember _ _) (wpAny_of_eq (a:=Value.none) (by first|rfl|(simp only[firstArgMember];rfl)) ?_)
 refine fQ ?_ (by size_fits);simp only[raiseNew];refine ah (wpAny_handled ?_)
 first|rw[show A.in1.handled=none from hh]|(rw[hh])
 refine ah (aA (wpAny_throw ?_));exact hE _ _ (((Heap.SameBut.update ..).extBut.push _).push _) ⟨_,ci _ rfl,rfl⟩
theorem Ig(hh:A.handled=none)(jt t:Addr)(hne:t≠jt)(items:Array Value) :
  Draws prog w A jt [jt,t] items.size (fun i v=>items[i]?=some v) (fun i h=>h.IsTupleIter jt t i/\h.IsTuple t items) where
 live:=fun _ _ st=>let ⟨ob,hob,_⟩:=st.1;⟨ob,hob⟩
 frame:=fun _ _ _ st hk=>⟨st.1.at fun ob e=>hk jt (by simp) ob e,st.2.at fun ob e=>hk t (by simp) ob e⟩
 item:=fun i s Q E hi st hQ=>Ic st.1 st.2 (x:=items[i]) (by simp[hi]) fun h' hit' hs'=>hQ _ h' s.toks (by simp[hi]) ⟨hit',st.2.extBut hs'.extBut hne⟩ hs'
 done:=fun s Q E st hE=>Ie hh st.1 st.2 (by simp) hE
structure ZA(z ti to i1 i2:Addr)(f1 f2:List Addr):Prop where
 m1:i1∈f1
 m2:i2∈f2
 z1:z∉f1
 z2:z∉f2
 o1:to∉f1
 o2:to∉f2
 t1:ti≠i1
 t2:ti≠i2
 tz:ti≠z
 tt:ti≠to
 oz:to≠z
 c12:i1∉f2
 c21:i2∉f1
theorem Ih{z ti to i1 i2:Addr}{f1 f2:List Addr}{n1 n2 i:Nat}{P1 P2:Nat->Value->Prop}{S1 S2:Nat->Heap->Prop}{a b:Value}{Q:Value->Shared->Prop}(D1:Draws prog w A i1 f1 n1 P1 S1)(D2:Draws prog w A i2 f2 n2 P2 S2)(D:ZA z ti to i1 i2 f1 f2)
  (hz:IsZip s.heap z ti to .none) (hti:IsPair s.heap ti (.ref i1) (.ref i2)) (hto:IsPair s.heap to a b) (st1:S1 i s.heap) (st2:S2 i s.heap) (l1:i<n1) (l2:i<n2)
  (hQ:∀x y h' tk,P1 i x->P2 i y->IsZip h' z ti to (rawInt s.heap.objs.size)->IsPair h' to x y->S1 (i+1) h'->S2 (i+1) h'->IsPair h' s.heap.objs.size x y ->
   (∀c o,c≠z->c≠to->c≠i1->c≠i2->s.heap.get? c=some o->h'.get? c=some o)->Q (.ref s.heap.objs.size) { s with heap:=h',toks:=tk }) :
  wpAny (model prog w) A (Builtin.«zip.__next__» ⟨[.ref z],[]⟩) (fun fin s'=>∃v,fin=.done (.ret v)/\Q v s') E s:=by
 have i1z:i1≠z:=fun e=>D.z1 (e ▸ D.m1);have i2z:i2≠z:=fun e=>D.z2 (e ▸ D.m2);have i1o:i1≠to:=fun e=>D.o1 (e ▸ D.m1);have i2o:i2≠to:=fun e=>D.o2 (e ▸ D.m2);have i12:i1≠i2:=fun e=>D.c12 (e ▸ D.m2);obtain⟨hp,gg,dd,tk0,os0⟩:=s;show wpAny _ _ (field (.ref z) 2>>=_) _ _ _;refine ah (eu hz rfl (x:=.bool false) rfl ?_);show wpAny _ _ (field (.ref z) 3>>=_) _ _ _;refine ah (eu hz rfl (x:=.ref ti) rfl ?_);refine ah (iG hti rfl ?_);show wpAny _ _ (Builtin.SmallTypes.ownedTupleIsFree (.ref z)>>=_) _ _ _;refine ah ?_;unfold Builtin.SmallTypes.ownedTupleIsFree;refine ah (eu hz rfl (x:=.none) rfl (aA ?_));simp only[aL];refine ah (m9 ?_);refine ah (eu hz rfl (x:=.ref to) rfl ?_);refine ah (p8 hz (by simp) fun ha hza hsa=>?_)
 replace hza:IsZip ha z ti to .ellipsis:=hza
 refine ah ?_;simp only[List.zipIdx_cons,List.zipIdx_nil,xn,List.forIn_nil]
 -- the first
 refine ah (ah (xp ?_));show wpAny _ _ (Builtin.SmallTypes.nextOf (.ref i1)>>=_) _ _ _;have sa1:S1 i ha:=D1.frame _ _ _ st1 fun c hc o e=>hsa.extBut c o (fun q=>D.z1 (q ▸ hc)) e;have sa2:S2 i ha:=D2.frame _ _ _ st2 fun c hc o e=>hsa.extBut c o (fun q=>D.z2 (q ▸ hc)) e;refine ah (D1.item i _ _ _ l1 sa1 fun x hb tkb hx sb1 hsb=>aA ?_)
 replace hsb:Heap.SameBut i1 ha hb:=hsb
 have sb2:S2 i hb:=D2.frame _ _ _ sa2 fun c hc o e=>hsb.extBut c o (fun q=>D.c12 (q ▸ hc)) e;have htob:IsPair hb to a b:=hsb.extBut _ _ (a7 i1o) (hsa.extBut _ _ D.oz hto);refine ah (iG htob rfl ?_);refine ah (Dr htob fun hc htoc hsc=>?_)
 replace htoc:IsPair hc to x b:=htoc
 replace hsc:Heap.SameBut to hb hc:=hsc
 refine ah (ng (aA ?_))
 -- the second
 refine ah (ah (xp ?_));show wpAny _ _ (Builtin.SmallTypes.nextOf (.ref i2)>>=_) _ _ _;have sc1:S1 (i+1) hc:=D1.frame _ _ _ sb1 fun c hm o e=>hsc.extBut c o (fun q=>D.o1 (q ▸ hm)) e;have sc2:S2 i hc:=D2.frame _ _ _ sb2 fun c hm o e=>hsc.extBut c o (fun q=>D.o2 (q ▸ hm)) e;refine ah (D2.item i _ _ _ l2 sc2 fun y hd tkd hy sd2 hsd=>aA ?_)
 replace hsd:Heap.SameBut i2 hc hd:=hsd
 have sd1:S1 (i+1) hd:=D1.frame _ _ _ sc1 fun c hm o e=>hsd.extBut c o (fun q=>D.c21 (q ▸ hm)) e;have htod:IsPair hd to x b:=hsd.extBut _ _ (a7 i2o) htoc;refine ah (iG htod rfl ?_);refine ah (Dr htod fun he htoe hse=>?_)
 replace htoe:IsPair he to x y:=htoe
 replace hse:Heap.SameBut to hd he:=hse
 refine ah (ng (aA (aA ?_)))
 -- the tuple that is handed out
 refine ah (iG htoe rfl ?_);refine ah (wpAny_newTuple ?_);have hsz:he.objs.size=hp.objs.size:=by rw[hse.1,hsd.1,hsc.1,hsb.1,hsa.1]
 have se1:S1 (i+1) he:=D1.frame _ _ _ sd1 fun c hm o e=>hse.extBut c o (fun q=>D.o1 (q ▸ hm)) e;have se2:S2 (i+1) he:=D2.frame _ _ _ sd2 fun c hm o e=>hse.extBut c o (fun q=>D.o2 (q ▸ hm)) e;have hze:IsZip he z ti to .ellipsis:=hse.extBut _ _ (a7 D.oz) (hsd.extBut _ _ (a7 i2z) (hsc.extBut _ _ (a7 D.oz) (hsb.extBut _ _ (a7 i1z) hza)));have keep:∀c o,c≠z->c≠to->c≠i1->c≠i2->hp.get? c=some o->he.get? c=some o:=fun c o q1 q2 q3 q4 e=>
  hse.extBut _ _ q2 (hsd.extBut _ _ q4 (hsc.extBut _ _ q2 (hsb.extBut _ _ q3 (hsa.extBut _ _ q1 e))))
 have zlt:z<he.objs.size:=aX hze;show wpAny _ _ (Builtin.SmallTypes.ownedTupleHandOut (.ref z) (.ref he.objs.size)>>=_) _ _ _;refine ah ?_;unfold Builtin.SmallTypes.ownedTupleHandOut;have hzf:IsZip (he.push { cls:=.type "tuple",data:=.seq #[x,y] }) z ti to .ellipsis:=bb _ hze;refine ah (p8 hzf (by simp) fun hg hzg hsg=>?_)
 replace hzg:IsZip hg z ti to (rawInt he.objs.size):=hzg
 refine p8 hzg (by simp) fun hk hzk hsk=>?_
 replace hzk:IsZip hk z ti to (rawInt he.objs.size):=hzk
 have up:∀c o,c≠z->he.get? c=some o->hk.get? c=some o:=fun c o q e=>hsk.extBut _ _ q (hsg.extBut _ _ q (bb _ e));have hT:IsPair hk he.objs.size x y:=hsk.extBut _ _ (kf zlt) (hsg.extBut _ _ (kf zlt) (ci _ rfl));rw[hsz]at hzk hT;refine aA ⟨_,rfl,?_⟩;show Q (.ref he.objs.size) _;rw[hsz];exact hQ x y hk _ hx hy hzk (up _ _ D.oz htoe) (D1.frame _ _ _ se1 fun c hm o e=>up c o (fun q=>D.z1 (q ▸ hm)) e) (D2.frame _ _ _ se2 fun c hm o e=>up c o (fun q=>D.z2 (q ▸ hm)) e) hT fun c o q1 q2 q3 q4 e=>up c o q1 (keep c o q1 q2 q3 q4 e)
theorem Ii{z ti to i1 i2:Addr}{f1 f2:List Addr}{n1 n2 i:Nat}{P1 P2:Nat->Value->Prop}{S1 S2:Nat->Heap->Prop}{a b:Value}{Q:Fin->Shared->Prop}(D1:Draws prog w A i1 f1 n1 P1 S1)(D2:Draws prog w A i2 f2 n2 P2 S2)(D:ZA z ti to i1 i2 f1 f2)
  (hz:IsZip s.heap z ti to .none) (hti:IsPair s.heap ti (.ref i1) (.ref i2)) (hto:IsPair s.heap to a b) (st1:S1 i s.heap) (st2:S2 i s.heap) (hend:i=n1\/(i<n1/\i=n2))
  (hE:∀h' tk e,(∀c o,c≠z->c≠to->c≠i1->c≠i2->s.heap.get? c=some o->h'.get? c=some o)->(∃o,h'.get? e=some o/\o.cls=.type "StopIteration")->E (.ref e) { s with heap:=h',toks:=tk }) :
  wpAny (model prog w) A (Builtin.«zip.__next__» ⟨[.ref z],[]⟩) Q E s:=by
 have i1z:i1≠z:=fun e=>D.z1 (e ▸ D.m1);have i2z:i2≠z:=fun e=>D.z2 (e ▸ D.m2);have i1o:i1≠to:=fun e=>D.o1 (e ▸ D.m1);have i2o:i2≠to:=fun e=>D.o2 (e ▸ D.m2);obtain⟨hp,gg,dd,tk0,os0⟩:=s;show wpAny _ _ (field (.ref z) 2>>=_) _ _ _;refine ah (eu hz rfl (x:=.bool false) rfl ?_);show wpAny _ _ (field (.ref z) 3>>=_) _ _ _;refine ah (eu hz rfl (x:=.ref ti) rfl ?_);refine ah (iG hti rfl ?_);show wpAny _ _ (Builtin.SmallTypes.ownedTupleIsFree (.ref z)>>=_) _ _ _;refine ah ?_;unfold Builtin.SmallTypes.ownedTupleIsFree;refine ah (eu hz rfl (x:=.none) rfl (aA ?_));simp only[aL];refine ah (m9 ?_);refine ah (eu hz rfl (x:=.ref to) rfl ?_);refine ah (p8 hz (by simp) fun ha hza hsa=>?_)
 replace hza:IsZip ha z ti to .ellipsis:=hza
 refine ah ?_;simp only[List.zipIdx_cons,List.zipIdx_nil,xn,List.forIn_nil];refine ah (ah (xp ?_));show wpAny _ _ (Builtin.SmallTypes.nextOf (.ref i1)>>=_) _ _ _;have sa1:S1 i ha:=D1.frame _ _ _ st1 fun c hc o e=>hsa.extBut c o (fun q=>D.z1 (q ▸ hc)) e;have sa2:S2 i ha:=D2.frame _ _ _ st2 fun c hc o e=>hsa.extBut c o (fun q=>D.z2 (q ▸ hc)) e;rcases hend with rfl|⟨l1,rfl⟩
 ·refine ah (D1.done _ _ _ sa1 fun hb e hsb he=>?_);obtain⟨oe,hoe,hce⟩:=he;have hzb:IsZip hb z ti to .ellipsis:=hsb _ _ (a7 i1z) hza;have hez:e≠z:=fun q=>by subst q;rw[hzb]at hoe;cases hoe;simp at hce
  refine p8 hzb (by simp) fun hc _ hsc=>?_;exact hE hc _ e (fun c o q1 _ q3 _ q=>hsc.extBut _ _ q1 (hsb _ _ q3 (hsa.extBut _ _ q1 q))) ⟨oe,hsc.extBut _ _ hez hoe,hce⟩
 ·refine ah (D1.item _ _ _ _ l1 sa1 fun x hb tkb hx sb1 hsb=>aA ?_)
  replace hsb:Heap.SameBut i1 ha hb:=hsb
  have sb2:=D2.frame _ _ _ sa2 fun c hc o e=>hsb.extBut c o (fun q=>D.c12 (q ▸ hc)) e;have htob:IsPair hb to a b:=hsb.extBut _ _ (a7 i1o) (hsa.extBut _ _ D.oz hto);refine ah (iG htob rfl ?_);refine ah (Dr htob fun hc htoc hsc=>?_)
  replace hsc:Heap.SameBut to hb hc:=hsc
  refine ah (ng (aA ?_));refine ah (ah (xp ?_));show wpAny _ _ (Builtin.SmallTypes.nextOf (.ref i2)>>=_) _ _ _;have sc2:=D2.frame _ _ _ sb2 fun c hm o e=>hsc.extBut c o (fun q=>D.o2 (q ▸ hm)) e;refine ah (D2.done _ _ _ sc2 fun hd e hsd he=>?_);obtain⟨oe,hoe,hce⟩:=he;have hzd:IsZip hd z ti to .ellipsis:=hsd _ _ (a7 i2z) (hsc.extBut _ _ (a7 D.oz) (hsb.extBut _ _ (a7 i1z) hza));have hez:e≠z:=fun q=>by subst q;rw[hzd]at hoe;cases hoe;simp at hce
  refine p8 hzd (by simp) fun hf _ hsf=>?_;exact hE hf _ e (fun c o q1 q2 q3 q4 q=>hsf.extBut _ _ q1 (hsd _ _ q4 (hsc.extBut _ _ q2 (hsb.extBut _ _ q3 (hsa.extBut _ _ q1 q))))) ⟨oe,hsf.extBut _ _ hez hoe,hce⟩
noncomputable def dU(tp:Bool)(h:Heap)(a:Addr)(its:Array Value):Prop:=if tp then h.IsTuple a its else h.IsList a its
noncomputable def dC(tp:Bool)(h:Heap)(jt a:Addr)(i:Nat):Prop:=if tp then h.IsTupleIter jt a i else h.IsListIter jt a i
theorem my(hh:A.handled=none)(tp:Bool)(jt a:Addr)(hne:a≠jt)(its:Array Value):Draws prog w A jt [jt,a] its.size (fun i v=>its[i]?=some v) (fun i h=>dC tp h jt a i/\dU tp h a its):=by
 cases tp with
 |true=>exact Ig hh jt a hne its
 |false=>exact Draws.list hh jt a hne its
theorem dU.push{tp:Bool}{h:Heap}{a:Addr}{its:Array Value}(x:dU tp h a its)(o:Obj):dU tp (h.push o) a its:=by
 cases tp with
 |true=>exact Heap.IsTuple.push x o
 |false=>exact Heap.IsList.push x o
theorem dU.at{tp:Bool}{h h':Heap}{a:Addr}{its:Array Value}(x:dU tp h a its)(k:∀o,h.get? a=some o->h'.get? a=some o):dU tp h' a its:=by
 cases tp with
 |true=>exact Heap.IsTuple.at x k
 |false=>exact Heap.IsList.at x k
theorem dC.at{tp:Bool}{h h':Heap}{jt a:Addr}{i:Nat}(x:dC tp h jt a i)(k:∀o,h.get? jt=some o->h'.get? jt=some o):dC tp h' jt a i:=by
 cases tp with
 |true=>exact Heap.IsTupleIter.at x k
 |false=>exact Heap.IsListIter.at x k
theorem dC.obj{tp:Bool}{h:Heap}{jt a:Addr}{i:Nat}(x:dC tp h jt a i):∃o,h.get? jt=some o/\∀v,o.data≠.cell v:=by
 cases tp with
 |true=>obtain⟨o,e,_,d⟩:=x;exact⟨o,e,fun v z=>by rw[d]at z;cases z⟩
 |false=>obtain⟨o,e,_,d⟩:=x;exact⟨o,e,fun v z=>by rw[d]at z;cases z⟩
noncomputable def o4(tp:Bool)(a:Addr):Obj:={ cls:=.type (if tp then "tuple_iterator" else "list_iterator"),data:=.fields #[.ref a,.int 0 0] }
noncomputable abbrev zA(h:Heap)(b1:Bool)(a1:Addr):Heap:=h.push (o4 b1 a1)
noncomputable abbrev zB(h:Heap)(b1 b2:Bool)(a1 a2:Addr):Heap:=(zA h b1 a1).push (o4 b2 a2)
noncomputable abbrev zC(h:Heap)(b1 b2:Bool)(a1 a2:Addr):Heap:=(zB h b1 b2 a1 a2).push { cls:=.type "tuple",data:=.seq #[.ref h.objs.size,.ref (zA h b1 a1).objs.size] }
noncomputable abbrev zD(h:Heap)(b1 b2:Bool)(a1 a2:Addr):Heap:=(zC h b1 b2 a1 a2).push { cls:=.type "tuple",data:=.seq #[.none,.none] }
noncomputable abbrev zE(h:Heap)(b1 b2:Bool)(a1 a2:Addr):Heap:=(zD h b1 b2 a1 a2).push { cls:=.type "zip",data:=.fields #[.none,.bool false,.bool false,.ref (zB h b1 b2 a1 a2).objs.size,.ref (zC h b1 b2 a1 a2).objs.size] }
theorem Ij(b1 b2:Bool)(a1 a2:Addr)(xs ys:Array Value) :
  Meets (Builtin.«zip.__new__» ⟨[.type "zip",.ref a1,.ref a2],[]⟩) (fun _ R s=>dU b1 s.heap a1 xs/\dU b2 s.heap a2 ys/\R (.ok (.ret (.ref (zD s.heap b1 b2 a1 a2).objs.size))) { s with heap:=zE s.heap b1 b2 a1 a2 }):=
 .of_wp fun prog w A R s h=>by
  obtain⟨hp,g,d,tk,os⟩:=s;obtain⟨hA,hB,h⟩:=h;have hsub:=sub_zip;have q:dU b2 (Shared.heap ⟨hp.push (o4 b1 a1),g,d,tk,os⟩) a2 ys:=dU.push hB _;cases b1<;>cases b2
  ·have p1:Heap.IsList (Shared.heap ⟨hp,g,d,tk,os⟩) a1 xs:=hA;have p2:Heap.IsList (Shared.heap ⟨hp.push { cls:=.type "list_iterator",data:=.fields #[.ref a1,.int 0 0] },g,d,tk,os⟩) a2 ys:=q
   wp_walk using jo p1,jo p2
   exact⟨_,rfl,h⟩
  ·have p1:Heap.IsList (Shared.heap ⟨hp,g,d,tk,os⟩) a1 xs:=hA;have p2:Heap.IsTuple (Shared.heap ⟨hp.push { cls:=.type "list_iterator",data:=.fields #[.ref a1,.int 0 0] },g,d,tk,os⟩) a2 ys:=q
   wp_walk using jo p1,km p2
   exact⟨_,rfl,h⟩
  ·have p1:Heap.IsTuple (Shared.heap ⟨hp,g,d,tk,os⟩) a1 xs:=hA;have p2:Heap.IsList (Shared.heap ⟨hp.push { cls:=.type "tuple_iterator",data:=.fields #[.ref a1,.int 0 0] },g,d,tk,os⟩) a2 ys:=q
   wp_walk using km p1,jo p2
   exact⟨_,rfl,h⟩
  ·have p1:Heap.IsTuple (Shared.heap ⟨hp,g,d,tk,os⟩) a1 xs:=hA;have p2:Heap.IsTuple (Shared.heap ⟨hp.push { cls:=.type "tuple_iterator",data:=.fields #[.ref a1,.int 0 0] },g,d,tk,os⟩) a2 ys:=q
   wp_walk using km p1,km p2
   exact⟨_,rfl,h⟩
theorem uA(tp:Bool)(h:Heap)(a:Addr):dC tp (h.push (o4 tp a)) h.objs.size a 0:=by
 cases tp with
 |true=>exact⟨_,ci _ rfl,rfl,rfl⟩
 |false=>exact⟨_,ci _ rfl,rfl,rfl⟩
theorem Ik{b1 b2:Bool}{a1 a2:Addr}{xs ys:Array Value}{Q:Value->Shared->Prop}(h1:dU b1 s.heap a1 xs)(h2:dU b2 s.heap a2 ys)
  (h:∀h',IsZip h' (s.heap.objs.size+4) (s.heap.objs.size+2) (s.heap.objs.size+3) .none->IsPair h' (s.heap.objs.size+2) (.ref s.heap.objs.size) (.ref (s.heap.objs.size+1))->IsPair h' (s.heap.objs.size+3) .none .none ->
   dC b1 h' s.heap.objs.size a1 0->dC b2 h' (s.heap.objs.size+1) a2 0->(∀c o,s.heap.get? c=some o->h'.get? c=some o)->Q (.ref (s.heap.objs.size+4)) { s with heap:=h' }) :
  wpAny (model prog w) A (call (.type "zip") [.ref a1,.ref a2]) Q E s:=by
 refine callType_new F.called_zip (by decide) (F.typeCall_zip_2 _ _) (F.newCall_zip_2 _ _) (fun obj=>F.args_object_init_3 obj _ _) F.entry_zip_new (Ij b1 b2 a1 a2 xs ys) ⟨h1,h2,?_⟩;have z1:(zA s.heap b1 a1).objs.size=s.heap.objs.size+1:=gj ..;have z2:(zB s.heap b1 b2 a1 a2).objs.size=s.heap.objs.size+2:=by rw[gj,z1]
 have z3:(zC s.heap b1 b2 a1 a2).objs.size=s.heap.objs.size+3:=by rw[gj,z2]
 have z4:(zD s.heap b1 b2 a1 a2).objs.size=s.heap.objs.size+4:=by rw[gj,z3]
 have k5:∀{c o},(zD s.heap b1 b2 a1 a2).get? c=some o->(zE s.heap b1 b2 a1 a2).get? c=some o:=fun x=>bb _ x;have k4:∀{c o},(zC s.heap b1 b2 a1 a2).get? c=some o->(zE s.heap b1 b2 a1 a2).get? c=some o:=fun x=>k5 (bb _ x);have k3:∀{c o},(zB s.heap b1 b2 a1 a2).get? c=some o->(zE s.heap b1 b2 a1 a2).get? c=some o:=fun x=>k4 (bb _ x);have k2:∀{c o},(zA s.heap b1 a1).get? c=some o->(zE s.heap b1 b2 a1 a2).get? c=some o:=fun x=>k3 (bb _ x);have g5:(zE s.heap b1 b2 a1 a2).get? (zD s.heap b1 b2 a1 a2).objs.size=some _:=ci _ rfl;have g4:=k5 (ci (zC s.heap b1 b2 a1 a2) (o:={ cls:=.type "tuple",data:=.seq #[.none,.none] }) rfl);have g3:=k4 (ci (zB s.heap b1 b2 a1 a2) (o:={ cls:=.type "tuple",data:=.seq #[.ref s.heap.objs.size,.ref (zA s.heap b1 a1).objs.size] }) rfl);have g2:dC b2 (zE s.heap b1 b2 a1 a2) (zA s.heap b1 a1).objs.size a2 0:=(uA b2 (zA s.heap b1 a1) a2).at fun o x=>k3 x;have g1:dC b1 (zE s.heap b1 b2 a1 a2) s.heap.objs.size a1 0:=(uA b1 s.heap a1).at fun o x=>k2 x;show _/\_;rw[z2,z3,z4]at g5;rw[z1,z2]at g3;rw[z3]at g4;rw[z1]at g2;rw[z4];exact⟨⟨_,g5,rfl⟩,h _ g5 g3 g4 g1 g2 fun c o x=>k2 (bb _ x)⟩
theorem Il{z ti to i1 i2:Addr}{f1 f2:List Addr}{n1 n2 i:Nat}{P1 P2:Nat->Value->Prop}{S1 S2:Nat->Heap->Prop}{a b:Value}{Q:Option Value->Shared->Prop}(D1:Draws prog w A.in1 i1 f1 n1 P1 S1)(D2:Draws prog w A.in1 i2 f2 n2 P2 S2)(D:ZA z ti to i1 i2 f1 f2)
  (hz:IsZip s.heap z ti to .none) (hti:IsPair s.heap ti (.ref i1) (.ref i2)) (hto:IsPair s.heap to a b) (st1:S1 i s.heap) (st2:S2 i s.heap) (l1:i<n1) (l2:i<n2)
  (hQ:∀x y h' tk,P1 i x->P2 i y->IsZip h' z ti to (rawInt s.heap.objs.size)->IsPair h' to x y->S1 (i+1) h'->S2 (i+1) h'->IsPair h' s.heap.objs.size x y ->
   (∀c o,c≠z->c≠to->c≠i1->c≠i2->s.heap.get? c=some o->h'.get? c=some o)->Q (some (.ref s.heap.objs.size)) { s with heap:=h',toks:=tk }):wpAny (model prog w) A (pyNext (.ref z)) Q E s:=by
 have hT:s.TypeIs (.ref z) "zip":=⟨_,hz,rfl⟩
 unfold pyNext;refine ah (wpAny_attempt (mZ (name:=Str.ofString "__next__") hT xq (lK xq hT F.entry_zip_next ?_ (F.args_zip_next_1 _))));exact Ih D1 D2 D hz hti hto st1 st2 l1 l2 fun x y h' tk q1 q2 q3 q4 q5 q6 q7 q8=>aA (hQ x y h' tk q1 q2 q3 q4 q5 q6 q7 q8)
theorem Im{z ti to i1 i2:Addr}{f1 f2:List Addr}{n1 n2 i:Nat}{P1 P2:Nat->Value->Prop}{S1 S2:Nat->Heap->Prop}{a b:Value}{Q:Option Value->Shared->Prop}(D1:Draws prog w A.in1 i1 f1 n1 P1 S1)(D2:Draws prog w A.in1 i2 f2 n2 P2 S2)(D:ZA z ti to i1 i2 f1 f2)
  (hz:IsZip s.heap z ti to .none) (hti:IsPair s.heap ti (.ref i1) (.ref i2)) (hto:IsPair s.heap to a b) (st1:S1 i s.heap) (st2:S2 i s.heap) (hend:i=n1\/(i<n1/\i=n2))
  (hQ:∀h' tk,(∀c o,c≠z->c≠to->c≠i1->c≠i2->s.heap.get? c=some o->h'.get? c=some o)->Q none { s with heap:=h',toks:=tk }):wpAny (model prog w) A (pyNext (.ref z)) Q E s:=by
 have hT:s.TypeIs (.ref z) "zip":=⟨_,hz,rfl⟩
 unfold pyNext;refine ah (wpAny_attempt (mZ (name:=Str.ofString "__next__") hT xq (lK xq hT F.entry_zip_next ?_ (F.args_zip_next_1 _))));refine Ii D1 D2 D hz hti hto st1 st2 hend fun h' tk e hk ⟨o,ho,hc⟩=>?_;refine ah (wpAny_isInstance (T:="StopIteration") (b:=true) ⟨o,ho,hc⟩ isSubtype_stop ?_);exact aA (hQ h' tk hk)
end
end Q
namespace Q
open PySem PySem.Spec PyProof.Rows L2 PySem.SeqAt
section
variable{X:Cx}{pins:List (Addr×Obj)}{sg:L2.St}{H:Hp}{s:Shared}
theorem Ai{ch:List Addr}{T:Addr}{vs:List V}{us:List Value}{h':Heap}{t':Nat}(I:Inv X pins sg H s)(hf:∀b∈ch,cA X pins H b)(hT:s.heap.objs.size<=T)(k:∀b o,b∉ch->s.heap.get? b=some o->h'.get? b=some o)
  (rv:az vs us) (z:vs.length<=sizeLine) (ht:IsTup h' T us.toArray):Inv X pins sg (ay H T (.tup vs)) { s with heap:=h',toks:=t' }:=by
 have hn:H T=none:=I.hok.fresh hT;have nT:∀{b o},s.heap.get? b=some o->b≠T:=fun e=>bU (eg (aX e) hT);have nit:∀{b u},H b=some u->b∉ch:=fun e hb=>by rw[(hf _ hb).1]at e;cases e
 refine I.step (g':=s.gens) (d':=s.drawn) (ch:=ch) (fun b hb=>⟨(hf b hb).2.2.2.1,(hf b hb).2.1,(hf b hb).2.2.2.2.1,(hf b hb).2.2.2.2.2⟩) (fun b o _ _ hc e _=>k b o hc e) (fun b o _ _ hc e _=>⟨o.slots,k b o hc e⟩) (fun b o hc e n=>by rw[aR (nT e)];exact n)
  (fun b o hc e=>⟨o,k b o hc e⟩) (fun b xs e=>by rw[aR (dz e hn)];exact e) (fun b o u e=>by rw[aR (dz e hn)];exact e) (fun b ps e=>⟨#[],by rw[aR (dz e hn),e];simp⟩) (fun m hm=>?_) (fun b u e=>?_) I.bare
 ·obtain⟨o,es,ep,ho,r⟩:=hm;exact⟨o,es,ep,k _ o (fun hb=>(hf _ hb).2.1 rfl) ho,r⟩
 ·by_cases hb:b=T
  ·subst hb;rw[eQ]at e;cases e;exact⟨z,us,rv,ht⟩
  ·rw[aR hb]at e;refine(I.hok b u e).stay (fun c v hc q=>k c v ?_ q) (fun c q=>by rw[aR (dz q hn)];exact q) fun c xs q=>by rw[aR (dz q hn)];exact q
   rcases hc with rfl|hc
   ·exact nit e
   ·exact nit hc
theorem o5{ch:List Addr}{h':Heap}{t':Nat}(I:Inv X pins sg H s)(hf:∀b∈ch,cA X pins H b)(k:∀b o,b∉ch->s.heap.get? b=some o->h'.get? b=some o):Inv X pins sg H { s with heap:=h',toks:=t' }:=by
 have nit:∀{b u},H b=some u->b∉ch:=fun e hb=>by rw[(hf _ hb).1]at e;cases e
 refine I.step (g':=s.gens) (d':=s.drawn) (ch:=ch) (fun b hb=>⟨(hf b hb).2.2.2.1,(hf b hb).2.1,(hf b hb).2.2.2.2.1,(hf b hb).2.2.2.2.2⟩) (fun b o _ _ hc e _=>k b o hc e) (fun b o _ _ hc e _=>⟨o.slots,k b o hc e⟩) (fun b o hc e n=>n)
  (fun b o hc e=>⟨o,k b o hc e⟩) (fun b xs e=>e) (fun b o u e=>e) (fun b ps e=>⟨#[],by rw[e];simp⟩) (fun m hm=>?_) (fun b u e=>?_) I.bare
 ·obtain⟨o,es,ep,ho,r⟩:=hm;exact⟨o,es,ep,k _ o (fun hb=>(hf _ hb).2.1 rfl) ho,r⟩
 ·refine(I.hok b u e).stay (fun c v hc q=>k c v ?_ q) (fun c q=>q) fun c xs q=>q;rcases hc with rfl|hc
  ·exact nit e
  ·exact nit hc
end
theorem uB{n j:Nat}(h:0<j):n≠n+j:=by omega
theorem Aj{n j:Nat}(h:0<j):n+j≠n:=by omega
theorem mz{n j k:Nat}(h:j≠k):n+j≠n+k:=by omega
noncomputable def fX(tp:Bool)(K:PySem.W.Frag)(H:Hp)(mu:List Addr)(a:Addr)(vs:List V):Prop:=if tp then bv K H a vs else eY K H mu a vs
theorem fX.step{tp:Bool}{K:PySem.W.Frag}{H H':Hp}{mu mu':List Addr}{a:Addr}{vs:List V}(s:Step H mu H' mu')(h:fX tp K H mu a vs):fX tp K H' mu' a vs:=by
 cases tp with
 |true=>exact s.sqT h
 |false=>exact s.lstV h
theorem fX.at{X:Cx}{pins:List (Addr×Obj)}{sg:L2.St}{H:Hp}{s:Shared}{tp:Bool}{mu:List Addr}{a:Addr}{vs:List V}(I:Inv X pins sg H s)(h:fX tp X.K H mu a vs):∃its:List Value,az vs its/\dU tp s.heap a its.toArray:=by
 cases tp with
 |true=>
  obtain⟨its,rv,pl,_⟩:=I.tuple h;exact⟨its,rv,pl⟩
 |false=>
  obtain⟨its,rv,pl,_⟩:=I.list (eY.sq h);exact⟨its,rv,pl.isList⟩
theorem fX.ne{X:Cx}{pins:List (Addr×Obj)}{sg:L2.St}{H:Hp}{s:Shared}{tp:Bool}{mu:List Addr}{a b:Addr}{vs:List V}(I:Inv X pins sg H s)(h:fX tp X.K H mu a vs)(hb:cA X pins H b)(hx:b∉X.ex->X.s₀.heap.objs.size<=b):a≠b\/∃o,X.K.lookup a=some o:=by
 have aux:(∃o,H a=some o)->a≠b:=fun⟨o,e⟩ z=>by subst z;rw[hb.1]at e;cases e
 cases tp with
 |true=>
  rcases h with (h|⟨o,h⟩)|⟨o,_,_,e,_⟩
  ·exact .inl (aux ⟨_,h⟩)
  ·exact .inl (aux ⟨_,h⟩)
  ·exact .inr ⟨o,e⟩
 |false=>
  rcases h with ⟨h,_⟩|⟨o,h⟩|⟨o,_,_,e,_⟩
  ·exact .inl (aux ⟨_,h⟩)
  ·exact .inl (aux ⟨_,h⟩)
  ·exact .inr ⟨o,e⟩
theorem fX.out{X:Cx}{pins:List (Addr×Obj)}{sg:L2.St}{H:Hp}{s:Shared}{tp:Bool}{mu:List Addr}{a b:Addr}{vs:List V}(I:Inv X pins sg H s)(h:fX tp X.K H mu a vs)(hb:cA X pins H b):a≠b:=by
 have aux:(∃o,H a=some o)->a≠b:=fun⟨o,e⟩ z=>by subst z;rw[hb.1]at e;cases e
 have kin:(∃o,X.K.lookup a=some o)->a≠b:=fun⟨o,e⟩ z=>by
  subst z;have e1:=I.ok.mod.kin a o e;have e2:=(I.ok.bs a o e1).1;rcases hb.2.2.2.1 with q|q
  ·exact I.ok.noex a o e1 q
  ·exact absurd (eg (aX e2) q) (gb _)
 cases tp with
 |true=>
  rcases h with (h|⟨o,h⟩)|⟨o,_,_,e,_⟩
  ·exact aux ⟨_,h⟩
  ·exact aux ⟨_,h⟩
  ·exact kin ⟨o,e⟩
 |false=>
  rcases h with ⟨h,_⟩|⟨o,h⟩|⟨o,_,_,e,_⟩
  ·exact aux ⟨_,h⟩
  ·exact aux ⟨_,h⟩
  ·exact kin ⟨o,e⟩
theorem Ak:∀(xs ys:List PV)(i:Nat)(p:PV),(e_ xs ys)[i]?=some p->∃x y,xs[i]?=some x/\ys[i]?=some y/\p=.tup [x,y]
 |[],_,_,_,h=>by simp[e_]at h
 |_::_,[],_,_,h=>by simp[e_]at h
 |x::xs,y::ys,0,p,h=>by
  simp[e_]at h;exact⟨x,y,rfl,rfl,h.symm⟩
 |x::xs,y::ys,i+1,p,h=>by
  simp only[e_,List.getElem?_cons_succ]at h ⊢;exact Ak xs ys i p h
theorem Al:∀(xs ys:List PV),(e_ xs ys).length=min xs.length ys.length
 |[],_=>by simp[e_]
 |_::_,[]=>by simp[e_]
 |x::xs,y::ys=>by simp only[e_,List.length_cons,Al xs ys];omega
noncomputable def il(tp:Bool)(K:PySem.W.Frag)(H:Hp)(a:Addr)(vs:List V):Prop:=if tp then bv K H a vs else br K H a vs
theorem il.at{X:Cx}{pins:List (Addr×Obj)}{sg:L2.St}{H:Hp}{s:Shared}{tp:Bool}{a:Addr}{vs:List V}(I:Inv X pins sg H s)(h:il tp X.K H a vs):∃its:List Value,az vs its/\dU tp s.heap a its.toArray:=by
 cases tp with
 |true=>
  obtain⟨its,rv,pl,_⟩:=I.tuple h;exact⟨its,rv,pl⟩
 |false=>
  obtain⟨its,rv,pl,_⟩:=I.list h;exact⟨its,rv,pl.isList⟩
theorem il.out{X:Cx}{pins:List (Addr×Obj)}{sg:L2.St}{H:Hp}{s:Shared}{tp:Bool}{a b:Addr}{vs:List V}(I:Inv X pins sg H s)(h:il tp X.K H a vs)(hb:cA X pins H b):a≠b:=by
 have aux:(∃o,H a=some o)->a≠b:=fun⟨o,e⟩ z=>by subst z;rw[hb.1]at e;cases e
 have kin:(∃o,X.K.lookup a=some o)->a≠b:=fun⟨o,e⟩ z=>by
  subst z;have e1:=I.ok.mod.kin a o e;have e2:=(I.ok.bs a o e1).1;rcases hb.2.2.2.1 with q|q
  ·exact I.ok.noex a o e1 q
  ·exact absurd (eg (aX e2) q) (gb _)
 cases tp with
 |true=>
  rcases h with (h|⟨o,h⟩)|⟨o,_,_,e,_⟩
  ·exact aux ⟨_,h⟩
  ·exact aux ⟨_,h⟩
  ·exact kin ⟨o,e⟩
 |false=>
  rcases h with (h|⟨o,h⟩)|⟨o,_,_,e,_⟩
  ·exact aux ⟨_,h⟩
  ·exact aux ⟨_,h⟩
  ·exact kin ⟨o,e⟩
theorem Io{P:Program}{w:World}{K:PySem.W.Frag}{elts:List Expr}{kx:Nat}{tpos:Pos}{b1 b2:Bool}{a1 a2 z ti to i1 i2:Addr}{xs ys:List PV}{vs:List V}{ck:Option (Nat×List PV)}{live2:Hp->List Addr->Prop}(hst2:∀H mu H' mu',live2 H mu->Step H mu H' mu'->live2 H' mu')(hlive2:∀H mu S,ap K H mu S->live2 H mu->bw S ck=true->∃ws,il b2 K H a2 ws/\ai K H mu ys ws)(d1:ti≠i1)(d2:ti≠i2)(d3:ti≠z)(d4:ti≠to)(d5:to≠z)(d6:i1≠i2)(d7:i1≠z)(d8:i2≠z)(d9:i1≠to)(d10:i2≠to) :
  TQ P w K (.Tuple elts kx tpos) ⟨e_ xs ys,ck⟩ (fun H mu=>(fX b1 K H mu a1 vs/\ai K H mu xs vs)/\live2 H mu) [z,ti,to,i1,i2] z
   (fun i h=>IsZip h z ti to .none/\IsPair h ti (.ref i1) (.ref i2)/\(∃a b,IsPair h to a b)/\dC b1 h i1 a1 i/\dC b2 h i2 a2 i):=by
 have apart:∀{X:Cx}{pins:List (Addr×Obj)}{sg:L2.St}{H:Hp}{s:Shared}{mu:List Addr}{ws:List V},X.K=K->Inv X pins sg H s->(∀b∈[z,ti,to,i1,i2],cA X pins H b)->fX b1 K H mu a1 vs->il b2 K H a2 ws->ZA z ti to i1 i2 [i1,a1] [i2,a2]/\a1≠i1/\a2≠i2:=by
  intro X pins sg H s mu ws hK I hf h1 h2;subst hK;have o1:∀b∈[z,ti,to,i1,i2],a1≠b:=fun b hb=>h1.out I (hf b hb);have o2:∀b∈[z,ti,to,i1,i2],a2≠b:=fun b hb=>h2.out I (hf b hb);have p1:=o1 z (by simp);have p2:=o1 to (by simp);have p3:=o1 i2 (by simp);have p4:=o1 i1 (by simp);have q1:=o2 z (by simp);have q2:=o2 to (by simp);have q3:=o2 i1 (by simp);have q4:=o2 i2 (by simp);refine⟨⟨by simp,by simp,?_,?_,?_,?_,d1,d2,d3,d4,d5,?_,?_⟩,p4,q4⟩
  ·simp;exact⟨d7.symm,p1.symm⟩
  ·simp;exact⟨d8.symm,q1.symm⟩
  ·simp;exact⟨d9.symm,p2.symm⟩
  ·simp;exact⟨d10.symm,q2.symm⟩
  ·simp;exact⟨d6,q3.symm⟩
  ·simp;exact⟨d6.symm,p3.symm⟩
 refine⟨by simp,?_,?_,fun H mu H' mu' l s=>⟨⟨l.1.1.step s,s.reps l.1.2⟩,hst2 _ _ _ _ l.2 s⟩,?_,?_,?_⟩
 ·rintro i h ⟨hz,hti,⟨a,b,hto⟩,h1,h2⟩ c hc;simp only[aP,jp,jq]at hc;rcases hc with rfl|rfl|rfl|rfl|rfl
  ·exact⟨_,hz,fun v q=>by cases q⟩
  ·exact⟨_,hti,fun v q=>by cases q⟩
  ·exact⟨_,hto,fun v q=>by cases q⟩
  ·exact h1.obj
  ·exact h2.obj
 ·rintro i h h' ⟨hz,hti,⟨a,b,hto⟩,h1,h2⟩ k;exact⟨k z (by simp) _ hz,k ti (by simp) _ hti,⟨a,b,k to (by simp) _ hto⟩,h1.at fun o e=>k i1 (by simp) o e,h2.at fun o e=>k i2 (by simp) o e⟩
 ·rintro X rfl rfl rfl hc i p pins s sg H mu S E I m hf ⟨hz,hti,⟨a,b,hto⟩,h1,h2⟩ ⟨⟨l1,l2⟩,l0⟩ hck hp;obtain⟨ws,l3,l4⟩:=hlive2 _ _ _ m l0 hck;obtain⟨x,y,ex,ey,rfl⟩:=Ak _ _ _ _ hp;obtain⟨D,n1,n2⟩:=apart rfl I hf l1 l3;obtain⟨its1,rv1,s1⟩:=l1.at I;obtain⟨its2,rv2,s2⟩:=l3.at I;obtain⟨v1,g1,r1⟩:=l2.get ex;obtain⟨v2,g2,r2⟩:=l4.get ey;obtain⟨u1,k1,q1⟩:=rv1.get g1;obtain⟨u2,k2,q2⟩:=rv2.get g2;have hh:X.A.in1.handled=none:=I.ok.hd hc;have e1:i<its1.toArray.size:=by rw[aQ];exact(bF.mp k1).1
  have e2:i<its2.toArray.size:=by rw[aQ];exact(bF.mp k2).1
  refine Il (my hh b1 i1 a1 n1 its1.toArray) (my hh b2 i2 a2 n2 its2.toArray) D hz hti hto ⟨h1,s1⟩ ⟨h2,s2⟩ e1 e2 fun x' y' h' tk px py hz' hto' st1 st2 hT hk=>?_;have ex':x'=u1:=by
   have:its1[i]?=some x':=(by simpa using px)
   rw[k1]at this;exact(eO this).symm
  have ey':y'=u2:=by
   have:its2[i]?=some y':=(by simpa using py)
   rw[k2]at this;exact(eO this).symm
  subst ex';subst ey';refine⟨_,rfl,?_⟩;refine wpAny_letOwnedTupleGo_zip (s:={ s with heap:=h',toks:=tk }) hz' fun h2' hz2 hs2=>?_
  replace hs2:Heap.SameBut z h' h2':=hs2
  have hTz:s.heap.objs.size≠z:=kf (aX hz);have hT2:IsTup h2' s.heap.objs.size [x',y'].toArray:=⟨_,hs2.extBut _ _ hTz hT,rfl,0,rfl⟩
  have hall:∀b o,b∉[z,ti,to,i1,i2]->s.heap.get? b=some o->h2'.get? b=some o:=fun b o hb e=>by
   simp only[aP,jp,jq,lR]at hb;exact hs2.extBut _ _ hb.1 (hk b o hb.1 hb.2.2.1 hb.2.2.2.1 hb.2.2.2.2 e)
  have hTn:H s.heap.objs.size=none:=I.hok.fresh (aF _);have st:Step H mu (ay H s.heap.objs.size (.tup [v1,v2])) mu:=Step.laid hTn S;refine⟨_,Ai (s:=s) (vs:=[v1,v2]) (t':=tk) I hf (aF _) hall (.cons q1 (.cons q2 .nil)) (by show 2<=sizeLine;rw[cy];decide) hT2,ig (bv.of eQ) (st.reps (ai.cons r1 (ai.cons r2 ai.nil))),m.laid hTn,st,?_,fun b hb=>?_⟩
  ·refine⟨hz2,hs2.extBut _ _ d3 (hk _ _ d3 d4 d1 d2 hti),⟨_,_,hs2.extBut _ _ d5 hto'⟩,st1.1.at fun o e=>hs2.extBut _ _ d7 e,st2.1.at fun o e=>hs2.extBut _ _ d8 e⟩
  ·have:b≠s.heap.objs.size:=by
    obtain⟨o,e,_⟩:∃o,s.heap.get? b=some o/\True:=by
     simp only[aP,jp,jq]at hb;rcases hb with rfl|rfl|rfl|rfl|rfl
     ·exact⟨_,hz,trivial⟩
     ·exact⟨_,hti,trivial⟩
     ·exact⟨_,hto,trivial⟩
     ·obtain⟨o,e,_⟩:=h1.obj;exact⟨o,e,trivial⟩
     ·obtain⟨o,e,_⟩:=h2.obj;exact⟨o,e,trivial⟩
    exact bU (aX e)
   rw[aR this];exact(hf b hb).1
 ·rintro X rfl rfl rfl hc pins s sg H mu S E I m hf ⟨hz,hti,⟨a,b,hto⟩,h1,h2⟩ ⟨⟨l1,l2⟩,l0⟩ hck;obtain⟨ws,l3,l4⟩:=hlive2 _ _ _ m l0 hck;obtain⟨D,n1,n2⟩:=apart rfl I hf l1 l3;obtain⟨its1,rv1,s1⟩:=l1.at I;obtain⟨its2,rv2,s2⟩:=l3.at I;have hh:X.A.in1.handled=none:=I.ok.hd hc;have e1:its1.toArray.size=xs.length:=by rw[aQ,←rv1.length,l2.length]
  have e2:its2.toArray.size=ys.length:=by rw[aQ,←rv2.length,l4.length]
  refine Im (i:=(e_ xs ys).length) (my hh b1 i1 a1 n1 its1.toArray) (my hh b2 i2 a2 n2 its2.toArray) D hz hti hto ⟨h1,s1⟩ ⟨h2,s2⟩ ?_ fun h' tk hk=>⟨rfl,o5 I hf fun b o hb e=>?_⟩
  ·rw[e1,e2,Al];omega
  ·simp only[aP,jp,jq,lR]at hb;exact hk b o hb.1 hb.2.2.1 hb.2.2.2.1 hb.2.2.2.2 e
 ·rintro A i s Q E ⟨hz,_⟩ q;exact wpAny_pyIter_zip hz q
section
variable{X:Cx}{a b:Expr}{pos:Pos}
theorem Ip{pins:List (Addr×Obj)}{sg:L2.St}{H:Hp}{mu:List Addr}{s:Shared}{S:aa}{x:PV}{u:Value}{xs:List PV}(I:Inv X pins sg H s)(hn:t9 x=true)(r:RV X.K H mu x u)(h:aE S x=some xs) :
  ∃tp a vs,u=.ref a/\fX tp X.K H mu a vs/\ai X.K H mu xs vs:=by
 cases x with
 |tup ys=>
  simp only[aE,bT]at h;subst h;obtain⟨a',vs,rfl,h1,h2⟩:=ff r;exact⟨true,a',vs,rfl,h1,h2⟩
 |lst ys=>
  simp only[aE,bT]at h;subst h;obtain⟨a',vs,rfl,h1,h2⟩:=ie r;exact⟨false,a',vs,rfl,h1,h2⟩
 |ref n=>cases hn
 |_=>cases h
theorem Am{pins:List (Addr×Obj)}{sg:L2.St}{H:Hp}{mu:List Addr}{s:Shared}{S:aa}{x:PV}{u:Value}{xs:List PV}(I:Inv X pins sg H s)(m:ap X.K H mu S)(r:RV X.K H mu x u)(h:aE S x=some xs) :
  ∃(tp:Bool)(a:Addr)(live:Hp->List Addr->Prop)(vs:List V),u=.ref a/\il tp X.K H a vs/\live H mu/\(∀H mu H' mu',live H mu->Step H mu H' mu'->live H' mu') /\
   ∀H mu S',ap X.K H mu S'->live H mu->bw S' (e9 S x)=true->∃vs,il tp X.K H a vs/\ai X.K H mu xs vs:=by
 cases x with
 |tup ys=>
  simp only[aE,bT]at h;subst h;obtain⟨a',vs,rfl,h1,h2⟩:=ff r;exact⟨true,a',fun H mu=>bv X.K H a' vs/\ai X.K H mu ys vs,vs,rfl,h1,⟨h1,h2⟩,fun H mu H' mu' l s=>⟨s.sqT l.1,s.reps l.2⟩,fun H mu S' _ l _=>⟨vs,l.1,l.2⟩⟩
 |lst ys=>
  simp only[aE,bT]at h;subst h;obtain⟨a',vs,rfl,h1,h2⟩:=ie r;exact⟨false,a',fun H mu=>eY X.K H mu a' vs/\ai X.K H mu ys vs,vs,rfl,h1.sq,⟨h1,h2⟩,fun H mu H' mu' l s=>⟨s.lstV l.1,s.reps l.2⟩,fun H mu S' _ l _=>⟨vs,l.1.sq,l.2⟩⟩
 |ref n=>
  obtain⟨a',rfl,hn⟩:=jP r;simp only[aE]at h;cases hS:S[n]? with
  |none=>rw[hS]at h;cases h
  |some o=>
   cases o with
   |lst zs=>
    rw[hS]at h;simp only[bT]at h;subst h;obtain⟨vs,h1,h2⟩:=m.obj n a' _ hn hS;refine⟨false,a',fun H mu=>mu[n]?=some a',vs,rfl,br.of h1,hn,fun H mu H' mu' l s=>s.get l,fun H mu S' m' l hc=>?_⟩;have hS':S'[n]?=some (.lst zs):=by simpa [bw,e9,hS]using hc
    obtain⟨vs',g1,g2⟩:=m'.obj n a' _ l hS';exact⟨vs',br.of g1,g2⟩
   |_=>rw[hS]at h;cases h
 |_=>cases h
theorem Iq{elts:List Expr}{kx:Nat}{tpos p:Pos}{gs:Ro->aa->ac (List PV)}(hg:Gl X "zip")(hm:X.mg "zip"=none)(ha:DA X [a,b] gs)(he:starEach [a,b] X.env=(false,eval a X.env)::starEach [b] X.env)(hpl:(backTo pos (starEach [b] X.env)).any (·.1)=false) :
  DI X (.Tuple elts kx tpos) (.Call (.Name "zip" p) [a,b] [] pos) .zip gs:=by
 intro pins s sg H mu ro S Q I m e q;refine Call_ (g9 I hg hm boot_zip (Dg (ha pos pins s sg H mu ro S _ I m e ?_) he hpl));cases hf:gs ro S with
 |exn c' S'=>rw[hf]at q;exact q
 |bad=>rw[hf]at q;exact q
 |ok ps S1=>
  rw[hf]at q;dsimp only at q;intro us H1 mu1 s1 I1 r1 m1 t1
  match ps,q with
  |[],q=>exact q.elim
  |[x],q=>exact q.elim
  |x::y::z::w,q=>exact q.elim
  |[x,y],q=>
   obtain⟨u,u',rfl,rx,ry⟩:=mn r1;simp only[a8,h8,h_]at q;by_cases hnr:t9 x=true
   ·rw[ag hnr]at q;cases hx:aE S1 x with
    |none=>rw[hx]at q;exact q.elim
    |some xs=>
     cases hy:aE S1 y with
     |none=>rw[hx,hy]at q;exact q.elim
     |some ys=>
      rw[hx,hy]at q;dsimp only at q;obtain⟨b1,a1,vs,rfl,h1,h2⟩:=Ip I1 hnr rx hx;obtain⟨b2,a2,live2,ws,rfl,h3,l0,hst,hlive⟩:=Am I1 m1 ry hy;obtain⟨its1,rv1,g1⟩:=h1.at I1;obtain⟨its2,rv2,g2⟩:=h3.at I1;refine Ik g1 g2 fun h' hz hti hto hi1 hi2 hk=>?_;have I2:Inv X pins sg H1 { s1 with heap:=h' }:=I1.kept (t':=s1.toks) fun b o e=>hk b o e;refine wpAny_pyIter_zip (s:={ s1 with heap:=h' }) hz ?_;refine q _ _ _ _ H1 mu1 _ I2 m1 t1 (Io hst hlive (z:=s1.heap.objs.size+4) (i1:=s1.heap.objs.size) (i2:=s1.heap.objs.size+1) (ti:=s1.heap.objs.size+2) (to:=s1.heap.objs.size+3) (Aj (by decide)) (mz (by decide)) (mz (by decide)) (mz (by decide)) (mz (by decide)) (uB (by decide)) (uB (by decide)) (mz (by decide)) (uB (by decide)) (mz (by decide))) ⟨hz,hti,⟨_,_,hto⟩,hi1,hi2⟩ (fun b hb=>?_) ⟨⟨h1,h2⟩,l0⟩;have hge:s1.heap.objs.size<=b:=by
       simp only[aP,jp,jq]at hb;rcases hb with rfl|rfl|rfl|rfl|rfl
       ·exact p9 _ _
       ·exact p9 _ _
       ·exact p9 _ _
       ·exact aF _
       ·exact p9 _ _
      exact I1.fpOk hge (I1.hok.fresh hge)
   ·rw[av hnr]at q;exact q.elim
end
end Q
namespace Q
open PySem PySem.Spec PyProof.Rows L2 PySem.SeqAt
section
variable{prog:Program}{w:World}{A:Around}{E:Value->Shared->Prop}{s:Shared}
theorem Ir{T newId initId:String}{Bn Bi:Builtin}{args:List Value}{kw:List (Str×Value)}{S:PySem.Spec}{Q Q₁:Value->Shared->Prop}(ft:TypeCalled T newId initId)
  (hct:checkTypeCall T ⟨args,kw⟩=pure ()) (hcn:checkBuiltinCall newId ⟨.type T::args,kw⟩=pure ())
  (entryN:entryFor table newId=some Bn) (entryI:entryFor table initId=some Bi) (g:Meets (Bn ⟨.type T::args,kw⟩) S)
  (h:S A.in1 (wants Q₁ E) s)
  (hnext:∀obj s₁,Q₁ obj s₁->s₁.TypeIs obj T/\argsOk initId ⟨obj::args,kw⟩/\∃Si,Meets (Bi ⟨obj::args,kw⟩) Si/\Si A.in1 (wants (fun r s₂=>r=.none/\Q obj s₂) E) s₁) :
  wpAny (model prog w) A (call (.type T) args kw) Q E s:=by
 obtain⟨c,tl,hmro⟩:=ft.mro;have hmade:=ft.made;have hsub:=ft.sub;refine wpAny_call (codeAny_of_tree ?_);show wpAny _ _ (callAny (.type T) _) _ _ _;refine aA ⟨Code.quiet_builtin _ (by decide +kernel),xf F.entry_type_call ?_⟩;rw[Around.under_plain (weight_type_call_type T args kw) (units_type_call_type T args kw)];have h1:=ft.notType;have h2:=ft.canCreate
 repeat (any_goals (first|assumption|wp_step))
 refine mX (codeAny_call_builtin ft.plain entryN (wpAny_of_eq hcn (g prog w A.in1 _ s h))) fun r s₁ hr=>?_;cases r with
 |error e=>exact hr
 |ok fl=>
  cases fl with
  |ret obj=>
   obtain⟨hT,hok,Si,gi,hsi⟩:=hnext _ _ hr;have hli:=ft.init.lookup;have hbi:=ft.init.bind obj
   repeat (any_goals (first|assumption|wp_step))
   refine mX (codeAny_call_builtin ft.init.plain entryI (ft.init.check _ _ _ _ _ _ _ _ hT hok (gi prog w A.in1 _ s₁ hsi))) fun r₂ s₂ hr₂=>?_;cases r₂ with
   |error e=>exact hr₂
   |ok fl₂=>
    cases fl₂ with
    |ret r=>
     obtain⟨rfl,hq⟩:=hr₂
     repeat (any_goals (first|assumption|wp_step))
    |_=>exact hr₂.elim
  |_=>exact hr.elim
theorem Iu{T newId:String}{self:Value}{rest:List Value}{kw:List (Str×Value)}(hl:typeLookup (.type T) "__init__"=pure (some (.builtin "object.__init__")))
  (hm:Bind.madeBy (.type T)=pure (some newId)) (hne:(some newId != some "object.__new__")=true) :
  Meets (Builtin.«object.__init__» ⟨self::rest,kw⟩) (fun _ R s=>s.TypeIs self T/\R (.ok (.ret .none)) s):=by
 refine Meets.of_wp fun prog w A R s hs=>?_;obtain⟨hT,hq⟩:=hs;cases rest with
 |nil=>
  cases kw with
  |nil=>exact aA ⟨_,rfl,hq⟩
  |cons k kw=>
   repeat (any_goals (first|assumption|wp_step))
   exact⟨_,rfl,hq⟩
 |cons a rest=>
  repeat (any_goals (first|assumption|wp_step))
  exact⟨_,rfl,hq⟩
theorem Iv(a b:Value):checkTypeCall "enumerate" ⟨[a],[("start",b)]⟩=pure ():=by kernel_rfl
theorem Iw(a b:Value):checkBuiltinCall "enumerate.__new__" ⟨[.type "enumerate",a],[("start",b)]⟩=pure ():=by kernel_rfl
theorem Ix(a b c:Value):argsOk "object.__init__" ⟨[a,b],[("start",c)]⟩:=by
 unfold argsOk;rw[signature?_of (id:="object.__init__") (n:=['_','_','t','i','n','i','_','_']) (o:=['t','c','e','j','b','o']) (by kernel_rfl) F.owner_object];kernel_rfl
noncomputable abbrev eA(h:Heap)(tp:Bool)(a:Addr):Heap:=h.push (o4 tp a)
noncomputable abbrev eB(h:Heap)(tp:Bool)(a:Addr)(k:Int):Heap:=(eA h tp a).push { cls:=.type "enumerate",data:=.fields #[.none,.bool false,.ref h.objs.size,rawInt k,.none,.none] }
theorem Iy(tp:Bool)(a:Addr)(xs:Array Value)(k:Int)(t:Tok)(hk:Builtin.SmallTypes.fitsIndex k=true) :
  Meets (Builtin.«enumerate.__new__» ⟨[.type "enumerate",.ref a],[("start",.int k t)]⟩) (fun _ R s=>dU tp s.heap a xs/\R (.ok (.ret (.ref (eA s.heap tp a).objs.size))) { s with heap:=eB s.heap tp a k }):=
 .of_wp fun prog w A R s h=>by
  obtain⟨hp,g,d,tk,os⟩:=s;obtain⟨hA,h⟩:=h;have hsub:=sub_enumerate;have hk':¬((!Builtin.SmallTypes.fitsIndex k)=true):=by rw[hk];decide
  cases tp with
  |false=>
   have hL:Heap.IsList (Shared.heap ⟨hp,g,d,tk,os⟩) a xs:=hA;obtain⟨ol,hl,hcl,nl,hdl⟩:=id hL
   wp_walk using gS hl
   refine wpAny_stack_any fun st=>aA ?_;split
   ·rename_i c _ _ _ _ _;cases (c==Value.type "enumerate")
    ·wp_walk using gS hl,jo hL
     exact⟨_,rfl,h⟩
    ·wp_walk using gS hl,jo hL
     exact⟨_,rfl,h⟩
   ·wp_walk using gS hl,jo hL
    exact⟨_,rfl,h⟩
  |true=>
   have hL:Heap.IsTuple (Shared.heap ⟨hp,g,d,tk,os⟩) a xs:=hA;obtain⟨ol,hl,hcl,nl,hdl⟩:=id hL
   wp_walk using gS hl
   refine wpAny_stack_any fun st=>aA ?_;split
   ·rename_i c _ _ _ _ _;cases (c==Value.type "enumerate")
    ·wp_walk using gS hl,km hL
     exact⟨_,rfl,h⟩
    ·wp_walk using gS hl,km hL
     exact⟨_,rfl,h⟩
   ·wp_walk using gS hl,km hL
    exact⟨_,rfl,h⟩
theorem Iz{tp:Bool}{a:Addr}{xs:Array Value}{k:Int}{t:Tok}{Q:Value->Shared->Prop}(hk:Builtin.SmallTypes.fitsIndex k=true)(h1:dU tp s.heap a xs)
  (h:∀h',IsEnum h' (s.heap.objs.size+1) s.heap.objs.size k .none->dC tp h' s.heap.objs.size a 0->(∀c o,s.heap.get? c=some o->h'.get? c=some o)->Q (.ref (s.heap.objs.size+1)) { s with heap:=h' }) :
  wpAny (model prog w) A (call (.type "enumerate") [.ref a] [("start",.int k t)]) Q E s:=by
 refine Ir Ds (Iv _ _) (Iw _ _) F.entry_enumerate_new F.entry_object_init (Iy tp a xs k t hk) (Q₁:=fun obj s₁=>s₁.TypeIs obj "enumerate"/\Q obj s₁) ⟨h1,?_⟩ fun obj _ hq=>
  ⟨hq.1,Ix obj _ _,_,Iu Ds.init.lookup Ds.made (by decide),hq.1,rfl,hq.2⟩
 have z1:(eA s.heap tp a).objs.size=s.heap.objs.size+1:=gj ..;have g2:(eB s.heap tp a k).get? (eA s.heap tp a).objs.size=some _:=ci _ rfl;have g1:dC tp (eB s.heap tp a k) s.heap.objs.size a 0:=(uA tp s.heap a).at fun o x=>bb _ x;show _/\_;rw[z1]at g2 ⊢;exact⟨⟨_,g2,rfl⟩,h _ g2 g1 fun c o x=>bb _ (bb _ x)⟩
end
theorem IA{prog:Program}{w:World}{A:Around}{it:Addr}{fp:List Addr}{n:Nat}{P:Nat->Value->Prop}{St:Nat->Heap->Prop}(D:Draws prog w A it fp n P St)(k:Nat) :
  Draws prog w A it fp (n+k) (fun i v=>∃j,i=j+k/\P j v) (fun i h=>∃j,i=j+k/\St j h) where
 live:=fun i h ⟨j,_,st⟩=>D.live j h st
 frame:=fun i h h' ⟨j,e,st⟩ q=>⟨j,e,D.frame j h h' st q⟩
 item:=fun i s Q E hi ⟨j,e,st⟩ hQ=>D.item j s Q E (by omega) st fun x h' tk hp st' sb=>hQ x h' tk ⟨j,e,hp⟩ ⟨j+1,by omega,st'⟩ sb
 done:=fun s Q E ⟨j,e,st⟩ hE=>by
  have:j=n:=by omega
  subst this;exact D.done s Q E st hE
theorem An:∀(xs:List PV)(k:Int)(i:Nat)(p:PV),(dm k xs)[i]?=some p->∃x,xs[i]?=some x/\p=.tup [.int (k+i),x]
 |[],_,_,_,h=>by simp[dm]at h
 |x::xs,k,0,p,h=>by
  simp[dm]at h;exact⟨x,rfl,by rw[←h];simp⟩
 |x::xs,k,i+1,p,h=>by
  simp only[dm,List.getElem?_cons_succ]at h ⊢;obtain⟨y,h1,h2⟩:=An xs (k+1) i p h;exact⟨y,h1,by rw[h2];congr 3;push_cast;omega⟩
theorem Ao:∀(xs:List PV)(k:Int),(dm k xs).length=xs.length
 |[],_=>by simp[dm]
 |x::xs,k=>by simp only[dm,List.length_cons,Ao xs]
theorem IB{P:Program}{w:World}{K:PySem.W.Frag}{elts:List Expr}{kx:Nat}{tpos:Pos}{tp:Bool}{a e it:Addr}{xs:List PV}{k:Nat}{ck:Option (Nat×List PV)}{live:Hp->List Addr->Prop}(bP:e≠it)
  (hst:∀H mu H' mu',live H mu->Step H mu H' mu'->live H' mu')
  (hlive:∀H mu S,ap K H mu S->live H mu->bw S ck=true->∃vs,il tp K H a vs/\ai K H mu xs vs) :
  TQ P w K (.Tuple elts kx tpos) ⟨dm (k:Int) xs,ck⟩ live [e,it] e (fun i h=>(∃old,IsEnum h e it ((i+k:Nat):Int) old)/\dC tp h it a i):=by
 refine⟨by simp,?_,?_,hst,?_,?_,?_⟩
 ·rintro i h ⟨⟨old,he⟩,h1⟩ c hc;simp only[aP,jp,jq]at hc;rcases hc with rfl|rfl
  ·exact⟨_,he,fun v q=>by cases q⟩
  ·exact h1.obj
 ·rintro i h h' ⟨⟨old,he⟩,h1⟩ q;exact⟨⟨old,q e (by simp) _ he⟩,h1.at fun o z=>q it (by simp) o z⟩
 ·rintro X rfl rfl rfl hc i p pins s sg H mu S E I m hf ⟨⟨old,he⟩,h1⟩ l hck hp;obtain⟨x,ex,rfl⟩:=An _ _ _ _ hp;obtain⟨vs,sv,rp⟩:=hlive H mu S m l hck;obtain⟨its,rv,sq⟩:=sv.at I;have n1:a≠it:=sv.out I (hf it (by simp));have n2:a≠e:=sv.out I (hf e (by simp));obtain⟨v,g,r⟩:=rp.get ex;obtain⟨u,k1,q1⟩:=rv.get g;have hh:X.A.in1.handled=none:=I.ok.hd hc;have e1:i<its.toArray.size:=by rw[aQ];exact(bF.mp k1).1
  refine wpAny_pyNext_enum_itemD (i:=i+k) (IA (my hh tp it a n1 its.toArray) k) he ⟨i,rfl,h1,sq⟩ (by omega) bP (by simp;exact⟨bP,n2.symm⟩) fun x' h' tk hP ho hs' hT hsz hk=>?_;obtain⟨j,hj,hP⟩:=hP;have:j=i:=by omega
  subst this;obtain⟨j',hj',hs'⟩:=hs';have:j'=j+1:=by omega
  subst this;have ex':x'=u:=by
   have:its[j]?=some x':=(by simpa using hP)
   rw[k1]at this;exact(eO this).symm
  subst ex';refine⟨_,rfl,?_⟩;refine wpAny_letOwnedTupleGo_enum (s:={ s with heap:=h',toks:=tk+1 }) ho fun h2 he2 hs2=>?_
  replace hs2:Heap.SameBut e h' h2:=hs2
  have hTe:s.heap.objs.size≠e:=kf (aX he);have hT2:IsTup h2 s.heap.objs.size [.int ((j+k:Nat):Int) tk,x'].toArray:=⟨_,hs2.extBut _ _ hTe hT,rfl,0,rfl⟩
  have hall:∀b o,b∉[e,it]->s.heap.get? b=some o->h2.get? b=some o:=fun b o hb z=>by
   simp only[aP,jp,jq,lR]at hb;exact hs2.extBut _ _ hb.1 (hk b o hb.1 hb.2 z)
  have hTn:H s.heap.objs.size=none:=I.hok.fresh (aF _);have st:Step H mu (ay H s.heap.objs.size (.tup [.int ((j+k:Nat):Int),v])) mu:=Step.laid hTn S;have hval:((j+k:Nat):Int)=(k:Int)+(j:Nat):=by push_cast;omega
  refine⟨_,Ai (s:=s) (vs:=[.int ((j+k:Nat):Int),v]) (t':=tk+1) I hf (aF _) hall (.cons ⟨tk,rfl⟩ (.cons q1 .nil)) (by show 2<=sizeLine;rw[cy];decide) hT2,ig (bv.of eQ) (st.reps (ai.cons (by simp only[ak];rw[hval]) (ai.cons r ai.nil))),m.laid hTn,st,?_,fun b hb=>?_⟩
  ·refine⟨⟨x',?_⟩,hs'.1.at fun o z=>hs2.extBut _ _ (a7 bP) z⟩;have:((j+1+k:Nat):Int)=((j+k:Nat):Int)+1:=by push_cast;omega
   rw[this];exact he2
  ·have:b≠s.heap.objs.size:=by
    simp only[aP,jp,jq]at hb;rcases hb with rfl|rfl
    ·exact bU (aX he)
    ·obtain⟨o,z,_⟩:=h1.obj;exact bU (aX z)
   rw[aR this];exact(hf b hb).1
 ·rintro X rfl rfl rfl hc pins s sg H mu S E I m hf ⟨⟨old,he⟩,h1⟩ l hck;obtain⟨vs,sv,rp⟩:=hlive H mu S m l hck;obtain⟨its,rv,sq⟩:=sv.at I;have n1:a≠it:=sv.out I (hf it (by simp));have hh:X.A.in1.handled=none:=I.ok.hd hc;have e1:its.toArray.size=xs.length:=by rw[aQ,←rv.length,rp.length]
  refine wpAny_pyNext_enum_endD (n:=its.toArray.size) (my hh tp it a n1 its.toArray) he ⟨?_,sq⟩ fun h' hx=>⟨rfl,o5 (t':=s.toks) I hf fun b o hb z=>?_⟩
  ·rw[e1];have h1':dC tp s.heap it a (dm (k:Int) xs).length:=h1;rw[Ao]at h1';exact h1'
  ·simp only[aP,jp,jq,lR]at hb;exact hx b o hb.2 z
 ·rintro A i s Q E ⟨⟨old,he⟩,_⟩ q;exact wpAny_pyIter_enum he q
section
variable{X:Cx}{a b:Expr}{pos:Pos}
theorem IC{elts:List Expr}{kx:Nat}{tpos:Pos}{k:Nat}{tp:Bool}{a':Addr}{live:Hp->List Addr->Prop}{pins:List (Addr×Obj)}{s1:Shared}{sg:L2.St}{H1:Hp}{mu1:List Addr}{S1:aa}{ck:Option (Nat×List PV)}{xs:List PV}{h':Heap}{Q:Value->Shared->Prop}{E:Value->Shared->Prop}(I1:Inv X pins sg H1 s1)(m1:ap X.K H1 mu1 S1)
  (l0:live H1 mu1) (hst:∀H mu H' mu',live H mu->Step H mu H' mu'->live H' mu') (hlive:∀H mu S',ap X.K H mu S'->live H mu->bw S' ck=true->∃vs,il tp X.K H a' vs/\ai X.K H mu xs vs)
  (he:IsEnum h' (s1.heap.objs.size+1) s1.heap.objs.size (k:Int) .none) (hi:dC tp h' s1.heap.objs.size a' 0) (hk:∀c o,s1.heap.get? c=some o->h'.get? c=some o) {H:Hp}{mu:List Addr}(t1:Step H mu H1 mu1)
  (q:∀it fp tn live H1 mu1 s1,Inv X pins sg H1 s1->ap X.K H1 mu1 S1->Step H mu H1 mu1->TQ X.prog X.w X.K (.Tuple elts kx tpos) ⟨dm (k:Int) xs,ck⟩ live fp it tn->tn 0 s1.heap->(∀b∈fp,cA X pins H1 b)->live H1 mu1->Q (.ref it) s1) :
  wpAny (Mo X) X.A (pyIter (.ref (s1.heap.objs.size+1))) Q E { s1 with heap:=h' }:=by
 have I2:Inv X pins sg H1 { s1 with heap:=h' }:=I1.kept (t':=s1.toks) fun b o e=>hk b o e;refine wpAny_pyIter_enum (s:={ s1 with heap:=h' }) he ?_;refine q _ _ _ _ H1 mu1 _ I2 m1 t1 (IB (e:=s1.heap.objs.size+1) (it:=s1.heap.objs.size) (a:=a') (tp:=tp) (Aj (by decide)) hst hlive) ⟨⟨.none,by simpa using he⟩,hi⟩ (fun b hb=>?_) l0;have hge:s1.heap.objs.size<=b:=by
  simp only[aP,jp,jq]at hb;rcases hb with rfl|rfl
  ·exact p9 _ _
  ·exact aF _
 exact I1.fpOk hge (I1.hok.fresh hge)
theorem ID{M:Model}{A:Around}{E:Value->Shared->Prop}{s:Shared}{pos:Pos}{T:String}{args:List (Bool×Sem Value)}{keywords:List (Option Str×Sem Value)}{Q:Value->Shared->Prop}
  (hplain:args.any (·.1)=false) (hkw:keywords.any (·.1.isNone)=false)
  (h:wpAny M A (evalArgs (.type T) true args keywords) (fun a s₁=>wpAny M A (call (.type T) a.pos a.kw) Q E s₁) E s) :
  wpAny M A (callWith pos (.type T) [] args keywords) Q E s:=by
 unfold callWith;refine ah (jn (cY h (fun a s₁ h₁=>ah (p7 ?_)) fun _ _ x=>x));simp only[hplain,hkw,p_];refine ah (aA ?_);exact ah (cY h₁ (fun r s₂ hr=>ah (jn (wpAny_point (aA hr)))) fun _ _ x=>x)
theorem IE{elts:List Expr}{kx:Nat}{tpos p kpos:Pos}{f g:Ro->aa->ac PV}(hg:Gl X "enumerate")(hm:X.mg "enumerate"=none)(ha:DE X a f)(hb:DE X b g)(he:starEach [a] X.env=(false,eval a X.env)::starEach [] X.env) :
  DI X (.Tuple elts kx tpos) (.Call (.Name "enumerate" p) [a] [⟨some "start",b,kpos⟩] pos) .enumK (fun ro S=>(f ro S).bind fun x S1=>(g ro S1).bind fun y S2=>.ok [x,y] S2):=by
 intro pins s sg H mu ro S Q I m e q;dsimp only at q;refine iD (g9 I hg hm boot_enumerate ?_);refine ID (by rw[he];rfl) rfl ?_;rw[he];refine Ol rfl ?_;refine gQ ?_;cases hf:f ro S with
 |exn c' S'=>rw[hf]at q;exact q.elim
 |bad=>rw[hf]at q;exact q.elim
 |ok x S1=>
  rw[hf,ac.bind_ok]at q;cases hgg:g ro S1 with
  |exn c' S'=>rw[hgg]at q;exact q.elim
  |bad=>rw[hgg]at q;exact q.elim
  |ok y S2=>
   rw[hgg,ac.bind_ok]at q;dsimp only at q;refine ha pins s sg H mu ro S _ I m e ?_;rw[hf];intro u H1 mu1 s1 I1 r1 m1 t1;refine kj ?_;refine PyProof.Rows.kws_cons ?_;refine hb pins s1 sg H1 mu1 ro S1 _ I1 m1 (t1.env e) ?_;rw[hgg];intro u2 H2 mu2 s2 I2 r2 m2 t2;refine PyProof.Rows.kws_nil ?_;cases y with
   |int k=>
    simp only[a8,h8,h_]at q;by_cases hk:0<=k/\k<4611686018427387904
    ·rw[ag hk]at q;cases hx:aE S2 x with
     |none=>rw[hx]at q;exact q.elim
     |some xs=>
      rw[hx]at q;dsimp only at q;obtain⟨t,rfl⟩:=bO r2;obtain⟨tp,a',live,vs,rfl,h1,l0,hst,hlive⟩:=Am I2 m2 (t2.rv r1) hx;obtain⟨its,rv,sq⟩:=h1.at I2;obtain⟨n,rfl⟩:=Int.eq_ofNat_of_zero_le hk.1;have hfit:Builtin.SmallTypes.fitsIndex (n:Int)=true:=by
       unfold Builtin.SmallTypes.fitsIndex;simp only[aG,gT];omega
      exact Iz hfit sq fun h' he hi hk=>IC (k:=n) I2 m2 l0 hst hlive he hi hk (t1.trans t2) q
    ·rw[av hk]at q;exact q.elim
   |_=>exact q.elim
end
end Q
namespace Q
open PySem PySem.Spec PyProof.Rows L2 PySem.SeqAt
theorem IG(items:List Value):slicePick items.toArray none none (some (-1))=items.reverse.toArray:=by
 unfold slicePick;have e:sliceBounds none none (some (-1)) items.length=((items.length:Int)-1,-1,-1):=by simp[sliceBounds]
 rw[aQ,e];congr 1;unfold sliceRange;dsimp only;rw[av (show ¬(-1:Int)>0 by decide)];have e2:(if ((items.length:Int)-1)>-1 then ((items.length:Int)-1 - -1 - -1-1) / - -1 else 0).toNat=items.length:=by
  split
  ·rw[show(- -1:Int)=1 from rfl,Int.ediv_one];omega
  ·omega
 rw[e2,List.filterMap_map];have key:∀n,n<=items.length->(List.range n).filterMap ((fun x=>items.toArray[x]?) ∘ fun(k:Nat)=>((items.length:Int)-1+-1*(k:Int)).toNat)=items.reverse.take n:=by
  intro n
  induction n with
  |zero=>intro _;rfl
  |succ n ih=>
   intro hn;rw[Dt,List.filterMap_append,ih (by omega),nj,Du (by omega)];congr 1;have:((items.length:Int)-1+-1*(n:Int)).toNat=items.length-1-n:=by omega
   simp only[List.filterMap_cons,List.filterMap_nil,Function.comp,this,List.getElem?_toArray];rw[a6 (by omega)];rfl
 rw[key _ (aF _),qa (by simp)]
theorem ai.reverse{K:PySem.W.Frag}{H:Hp}{mu:List Addr}:∀{ps:List PV}{vs:List V},ai K H mu ps vs->ai K H mu ps.reverse vs.reverse
 |[],vs,h=>by rw[h.isNil];exact ai.nil
 |p::ps,vs,h=>by
  obtain⟨v,vs',rfl,h1,h2⟩:=h.uncons;rw[wQ,wQ];exact ai.append (ai.reverse h2) (ai.cons h1 ai.nil)
section
variable{prog:Program}{w:World}{A:Around}{E:Value->Shared->Prop}{s:Shared}
theorem IH{sl:Addr}{n:Nat}{t:Tok}{Q:Int×Int×Nat->Shared->Prop}(hs:s.heap.IsSliceOf sl .none .none (.int (-1) t))(h:Q ((n:Int)-1,-1,n) s):wpAny (model prog w) A (Builtin.Slice.sliceApplied (.ref sl) (pure (n:Int))) Q E s:=by
 obtain⟨os,hos,hcs,hds⟩:=id hs;unfold Builtin.Slice.sliceApplied Builtin.Slice.sliceFields;refine ah (ah (eu hos hds (x:=.none) rfl (ah (eu hos hds (x:=.none) rfl (ah (eu hos hds (x:=.int (-1) t) rfl (aA ?_)))))));refine ah (slicePart_int ?_);show wpAny _ _ (if ((-1:Int)==0)=true then _ else _) _ _ s
 rw[av (by decide)];refine ah (HT.slicePart_ .none (ah (HT.slicePart_ .none (ah (aA ?_)))));show wpAny _ _ (pure ((n:Int)-1,(-1:Int),Builtin.Slice.slicePlaces ((n:Int)-1) (-1) (-1))) _ _ s;have e:Builtin.Slice.slicePlaces ((n:Int)-1) (-1) (-1)=n:=by
  unfold Builtin.Slice.slicePlaces;rw[av (by decide)];split
  ·rw[show(- -1:Int)=1 from rfl,Int.ediv_one];omega
  ·omega
 rw[e];exact aA h
theorem II{t sl:Addr}{items:List Value}{tk:Tok}{Q:Value->Shared->Prop}(ht:IsTup s.heap t items.toArray)(hs:s.heap.IsSliceOf sl .none .none (.int (-1) tk))
  (h:Q (.ref s.heap.objs.size) { s with heap:=s.heap.push { cls:=.type "tuple",data:=.seq items.reverse.toArray } }) (hsz:items.length<=sizeLine):wpAny (model prog w) A (getItem (.ref t) (.ref sl)) Q E s:=by
 have htake:sizeOk (.seq items.reverse.toArray):=by
  show items.reverse.toArray.size<=sizeLine;rw[aQ,iH];exact hsz
 have es:items.toArray.size=items.length:=aQ ..;obtain⟨os,hos,hcs,hds⟩:=id hs;have hTs:s.TypeIs (.ref sl) "slice":=⟨os,hos,hcs⟩
 unfold getItem
 try with_reducible refine jn ?_
 first|refine ah (aA ?_)|skip
 refine ah (C4 ht.typeIs (by decide) ?_);refine ah (mZ (name:=Str.ofString "__getitem__") ht.typeIs kh
  (lK kh ht.typeIs entry_tuple_getitem ?_ (args_tuple_getitem _ _)))
 show wpAny _ _ (Builtin.Tuple.tupleItemsOf (.ref t)>>=_) _ _ s;refine ah (tupleItemsOf_ ht ?_);refine ah (wO hTs ?_);rw[ag (by decide),es];refine ah (IH hs ?_);show wpAny _ _ (if (((items.length:Int)-1)==0&&(-1:Int)==1&&_)=true then _ else _) _ _ s
 rw[av (by simp)];have ep:((List.range items.length).filterMap fun(m:Nat)=>items.toArray[((items.length:Int)-1+(m:Int)*(-1)).toNat]?)=items.reverse:=by
  have key:∀n,n<=items.length->((List.range n).filterMap fun(m:Nat)=>items.toArray[((items.length:Int)-1+(m:Int)*(-1)).toNat]?)=items.reverse.take n:=by
   intro n
   induction n with
   |zero=>intro _;rfl
   |succ n ih=>
    intro hn;rw[Dt,List.filterMap_append,ih (by omega),nj,Du (by omega)];congr 1;have:((items.length:Int)-1+(n:Int)*(-1)).toNat=items.length-1-n:=by omega
    simp only[List.filterMap_cons,List.filterMap_nil,this,List.getElem?_toArray];rw[a6 (by omega)];rfl
  rw[key _ (aF _),qa (by simp)]
 rw[ep]
 first
  |exact ah (m:=Builtin.Tuple.tupleExact _) (fQ (aA ⟨_,rfl,aA h⟩) htake)
  |exact ah (m:=Builtin.Tuple.tupleExact _) (fQ (ah (aA (aA ⟨_,rfl,aA h⟩))) htake)
  |exact ah (ah (m:=Builtin.Tuple.tupleExact _) (fQ (aA (aA ⟨_,rfl,aA h⟩)) htake))
  |exact ah (ah (m:=Builtin.Tuple.tupleExact _) (fQ (aA ⟨_,rfl,aA h⟩) htake))
end
section
variable{X:Cx}{a b c:Expr}{f g:Ro->aa->ac PV}{pos:Pos}
theorem IJ{p2:Pos}(ha:DE X a f)(hc:DE X c (fun _ S=>.ok (.int (-1)) S)):DE X (.Subscript a (.Slice none none (some c) p2) pos) (fun ro S=>(f ro S).bind fun x S1=>l_ S1 x):=by
 intro pins s sg H mu ro S Q I m e q
 try dsimp only at q
 refine Subscript_ (ha pins s sg H mu ro S _ I m e (q.bind fun x S1 u H1 mu1 s1 I1 r1 m1 t1 q1=>?_));refine wpAny_Slice (ui pins s1 sg H1 mu1 ro S1 _ I1 m1 (t1.env e) (show aH X pins sg H1 mu1 (RV X.K) (.ok .non S1) _ from fun vl H2 mu2 s2 I2 r2 m2 t2=>?_));refine ui pins s2 sg H2 mu2 ro S1 _ I2 m2 ((t1.trans t2).env e) (show aH X pins sg H2 mu2 (RV X.K) (.ok .non S1) _ from fun vu H3 mu3 s3 I3 r3 m3 t3=>?_);rw[evalPart_some];refine hc pins s3 sg H3 mu3 ro S1 _ I3 m3 (((t1.trans t2).trans t3).env e) (show aH X pins sg H3 mu3 (RV X.K) (.ok (.int (-1)) S1) _ from fun vs H4 mu4 s4 I4 r4 m4 t4=>?_);rw[qB r2,qB r3];obtain⟨tk,rfl⟩:=bO r4;have I5:Inv X pins sg H4 { s4 with heap:=s4.heap.push { cls:=.type "slice",data:=.fields #[.none,.none,.int (-1) tk] } }:=I4.kept (t':=s4.toks) fun b ob q=>bb _ q;have t14:=(t2.trans t3).trans t4;have r1':=t14.rv r1;unfold l_ at q1;cases x with
 |lst xs=>
  dsimp only at q1;obtain⟨a',vs,rfl,h1,h2⟩:=ie r1';obtain⟨its,rv,pl,hz⟩:=I5.list h1.sq;have e3:=rv.length;show wpAny (model X.prog X.w) X.A (subscriptTail a (.Slice none none (some c) p2) (.ref a') (.ref s4.heap.objs.size)) Q X.xe { s4 with heap:=s4.heap.push { cls:=.type "slice",data:=.fields #[.none,.none,.int (-1) tk] } };have hty:({ s4 with heap:=s4.heap.push { cls:=.type "slice",data:=.fields #[.none,.none,.int (-1) tk] } }:Shared).TypeIs (.ref a') "list":=by
   obtain⟨o,n,ho,hcl,_⟩:=pl;exact⟨o,ho,hcl⟩
  refine tail_any (ops:=[.ref a',.ref s4.heap.objs.size]) hty C5.lookup ?_ (by with_unfolding_all rfl);refine wpAny_getItem_list_slice pl.isList (Df ..) .none .none (.int (-1) tk) (by simp) ?_ (by rw[aQ,←e3];exact hz);rw[IG];exact zM (tk:=s4.toks) I5 m4 (xs:=xs.reverse) (vs:=vs.reverse) h2.reverse rv.reverse (by rw[iH];exact hz) (q1.step t14)
 |tup xs=>
  dsimp only at q1;obtain⟨a',vs,rfl,h1,h2⟩:=ff r1';obtain⟨its,rv,ht,hz⟩:=I5.tuple h1;have e3:=rv.length;show wpAny (model X.prog X.w) X.A (subscriptTail a (.Slice none none (some c) p2) (.ref a') (.ref s4.heap.objs.size)) Q X.xe { s4 with heap:=s4.heap.push { cls:=.type "slice",data:=.fields #[.none,.none,.int (-1) tk] } };refine tail_any (ops:=[.ref a',.ref s4.heap.objs.size]) ht.typeIs kh.lookup ?_ (by with_unfolding_all rfl);refine II (tk:=tk) ht (Df ..) ?_ (by rw[←e3];exact hz);exact qC (tk:=s4.toks) I5 m4 (xs:=xs.reverse) (vs:=vs.reverse) h2.reverse rv.reverse (by rw[iH];exact hz) (q1.step t14)
 |_=>exact q1.elim
theorem IK{M:Model}{A:Around}{E:Value->Shared->Prop}{s:Shared}{pos:Pos}{T:String}{args:List (Bool×Sem Value)}{keywords:List (Option Str×Sem Value)}{Q:Value->Shared->Prop}
  (hplain:args.any (·.1)=false) (hkw:keywords.any (·.1.isNone)=false)
  (h:wpAny M A (evalArgs (.builtin T) true args keywords) (fun a s₁=>wpAny M A (call (.builtin T) a.pos a.kw) Q E s₁) E s) :
  wpAny M A (callWith pos (.builtin T) [] args keywords) Q E s:=by
 unfold callWith;refine ah (jn (cY h (fun a s₁ h₁=>ah (p7 ?_)) fun _ _ x=>x));simp only[hplain,hkw,p_];refine ah (aA ?_);exact ah (cY h₁ (fun r s₂ hr=>ah (jn (wpAny_point (aA hr)))) fun _ _ x=>x)
theorem IL{p kpos cp:Pos}{j:Nat}(hg:Gl X "sorted")(hm:X.mg "sorted"=none)(ha:DE X a f)(he:starEach [a] X.env=(false,eval a X.env)::starEach [] X.env) :
  DE X (.Call (.Name "sorted" p) [a] [⟨some "reverse",.Constant (.bool true) j cp,kpos⟩] pos) (fun ro S=>((f ro S).bind fun x S1=>(ac.ok ([]:List PV) S1).bind fun ps S2=>.ok (x::ps) S2).bind fun ps S1=>aC S1 .sortedR ps):=by
 intro pins s sg H mu ro S Q I m e q;simp only[ac.bind_assoc,ac.bind_ok]at q;refine iD (g9 I hg hm boot_sorted ?_);refine IK (by rw[he];rfl) rfl ?_;rw[he];refine Ol rfl ?_;refine gQ ?_;refine ha pins s sg H mu ro S _ I m e (q.bind fun x S1 u H1 mu1 s1 I1 r1 m1 t1 q1=>?_);refine kj ?_;refine PyProof.Rows.kws_cons ?_;refine zz pins s1 sg H1 mu1 ro S1 _ I1 m1 (t1.env e) (show aH X pins sg H1 mu1 (RV X.K) (.ok (.bl true) S1) _ from fun u2 H2 mu2 s2 I2 r2 m2 t2=>?_);refine PyProof.Rows.kws_nil ?_;rw[ug r2];exact GU I2 m2 (t2.rv r1) (q1.step t2)
end
end Q
namespace Q
open PySem PySem.Spec PyProof.Rows L2 PySem.SeqAt
end Q
namespace Q
open PySem PySem.Spec PyProof.Rows L2 PySem.SeqAt
theorem uC(scope:Scope)(env:Env)(x:Str):(relabel scope env).names.lookup x=(scope.names.lookup x).map fun k=>if (k==NameKind.free&&env.scope.kind==.function&&env.kindOf x==some .cell)=true then NameKind.cell else k:=by
 show List.lookup x (scope.names.map _)=_
 induction scope.names with
 |nil=>rfl
 |cons y r ih=>
  obtain⟨n,k⟩:=y;rw[aZ,List.lookup_cons];have e:∀(b:Bool)(r:List (Str×NameKind)),List.lookup x ((if b=true then (n,NameKind.cell) else (n,k))::r)=if (x==n)=true then some (if b=true then NameKind.cell else k) else List.lookup x r:=by
   intro b r;cases b<;>(simp only[eC,dj,aL,List.lookup_cons];cases (x==n)<;>rfl)
  have e2:=e (k==NameKind.free&&env.scope.kind==.function&&env.kindOf n==some .cell) (List.map (fun(n,k)=>if (k==NameKind.free&&env.scope.kind==.function&&env.kindOf n==some .cell)=true then (n,NameKind.cell) else (n,k)) r)
  refine Eq.trans e2 ?_;cases hx:x==n with
  |true=>
   have:x=n:=aB hx;subst this;simp
  |false=>
   rw[av wK,List.lookup_cons,hx];exact ih
theorem uD{env:Env}:∀(names:List (Str×NameKind))(cs:List (Str×Addr)),(∀y∈names,y.2=.free->∃c,env.cells.lookup y.1=some c) ->
  ∃cl,(forIn names cs fun x r=>(match x with|(name,kind)=>if (kind==NameKind.free)=true then do let c ←cellOf env name;pure (ForInStep.yield ((name,c)::r)) else pure (ForInStep.yield r)):Sem (List (Str×Addr)))=pure cl /\
   (∀n c,cl.lookup n=some c->cs.lookup n=some c\/(env.cells.lookup n=some c/\(n,NameKind.free)∈names))/\(∀n,(cs.lookup n).isSome=true->(cl.lookup n).isSome=true)/\∀y∈names,y.2=.free->(cl.lookup y.1).isSome=true
 |[],cs,_=>⟨cs,rfl,fun n c h=>.inl h,fun _ h=>h,fun _ h=>nomatch h⟩
 |(n,k)::r,cs,hf=>by
  by_cases hk:k=.free
  ·subst hk;obtain⟨c,hc⟩:=hf (n,.free) bK rfl;obtain⟨cl,e1,e2,e3,e4⟩:=uD r ((n,c)::cs) fun y hy=>hf y (bq _ hy);refine⟨cl,?_,fun m d h=>?_,fun m h=>e3 m ?_,fun y hy hyf=>?_⟩
   ·have ec:cellOf env n=pure c:=by unfold cellOf;rw[hc]
    rw[xn];simp only[fx,aL,ec];exact e1
   ·rcases e2 m d h with z|z
    ·rw[List.lookup_cons]at z;cases hm:m==n with
     |true=>
      rw[hm]at z;have:m=n:=aB hm;subst this;cases z;exact .inr ⟨hc,bK⟩
     |false=>rw[hm]at z;exact .inl z
    ·exact .inr ⟨z.1,bq _ z.2⟩
   ·rw[List.lookup_cons];cases hm:m==n with
    |true=>rfl
    |false=>exact h
   ·rcases aP.mp hy with rfl|hy
    ·exact e3 n (by rw[List.lookup_cons,fx];rfl)
    ·exact e4 y hy hyf
  ·obtain⟨cl,e1,e2,e3,e4⟩:=uD r cs fun y hy=>hf y (bq _ hy);refine⟨cl,?_,fun m d h=>(e2 m d h).imp id fun z=>⟨z.1,bq _ z.2⟩,e3,fun y hy hyf=>?_⟩
   ·rw[xn];have:(k==NameKind.free)=false:=by simpa using hk
    simp only[this,eC,dj];exact e1
   ·rcases aP.mp hy with rfl|hy
    ·exact absurd hyf hk
    ·exact e4 y hy hyf
theorem IM{env:Env}{scope:Scope}(hf:∀y∈scope.names,y.2=.free->∃c,env.cells.lookup y.1=some c) :
  ∃cl,closureFor scope env=pure cl/\(∀n c,cl.lookup n=some c->env.cells.lookup n=some c/\∃k,(n,k)∈scope.names/\k=NameKind.free)/\∀y∈scope.names,y.2=.free->(cl.lookup y.1).isSome=true:=by
 obtain⟨cl,e1,e2,_,e4⟩:=uD scope.names [] hf;refine⟨cl,?_,fun n c h=>?_,e4⟩
 ·unfold closureFor;simp only;rw[e1];rfl
 ·rcases e2 n c h with z|z
  ·cases z
  ·exact⟨z.1,_,z.2,rfl⟩
noncomputable def iX(X:Cx)(N':List Str)(C:Addr)(scope:Scope)(cl:List (Str×Addr))(s0:Shared)(H0:Hp)(ex:List Addr):Cx where
 prog:=X.prog
 w:=X.w
 K:=X.K
 mg:=X.mg
 base:=X.base
 A:=X.A
 N:=N'
 s₀:=s0
 H₀:=H0
 env:=compEnvC scope cl C X.env
 outer:=X.stack
 stack:=X.stack
 ex:=ex
 fn:=fun x=>scope.names.lookup x==some .cell
 calm:=true
 pn:=[]
 xe:=fun _ _=>False
structure jS(X:Cx)(N':List Str)(own:Nat)(out:List Nat)(scope:Scope):Prop where
 kind:scope.kind=.function
 nd:N'.Nodup
 len:N'.length=own+out.length
 loc:∀y∈scope.names,y.2=.local->scope.names.lookup y.1=some .local
 celq:∀y∈scope.names,y.2=.cell->scope.names.lookup y.1=some .cell
 frq:∀y∈scope.names,y.2=.free->scope.names.lookup y.1=some .free
 free:∀y∈scope.names,y.2=.free->X.env.scope.names.lookup y.1=some .cell\/X.env.scope.names.lookup y.1=some .free
 frl:∀(i j:Nat)(x:Str),out[i]?=some j->N'[own+i]?=some x->X.N[j]?=some x/\scope.names.lookup x=some .free
section
variable{X:Cx}{pins:List (Addr×Obj)}{sg:L2.St}{H:Hp}{s:Shared}
theorem jT{α:Type}{x:Str}{k:α}:∀{l:List (Str×α)},l.lookup x=some k->(x,k)∈l
 |[],h=>by cases h
 |(n,a)::r,h=>by
  rw[List.lookup_cons]at h;cases hx:x==n with
  |true=>
   rw[hx]at h;have:x=n:=aB hx;subst this;cases h;exact bK
  |false=>rw[hx]at h;exact bq _ (jT h)
structure uE(X:Cx)(scope:Scope)(C:Addr)(h4:Heap)(cs:List (Str×Addr)):Prop where
 look:∀x c,cs.lookup x=some c->(scope.names.lookup x≠some .cell/\X.env.cells.lookup x=some c)\/(scope.names.lookup x=some .cell/\C<c/\h4.IsCell c none)
 inj:∀x y c,cs.lookup x=some c->cs.lookup y=some c->C<c->x=y
 has:∀y∈scope.names,(y.2=.free\/y.2=.cell)->(cs.lookup y.1).isSome=true
theorem jU:∀(names:List (Str×NameKind))(n:Nat)(acc:List (Str×Addr)),cellsFrom n names acc=cellsFrom n names []++acc
 |[],n,acc=>rfl
 |(x,k)::r,n,acc=>by
  unfold cellsFrom;split
  ·rw[jU r (n+1) ((x,n)::acc),jU r (n+1) [(x,n)],Dv];rfl
  ·exact jU r n acc
theorem uF:∀(names:List (Str×NameKind))(n:Nat)(x:Str)(c:Addr),(x,c)∈cellsFrom n names []->(x,NameKind.cell)∈names
 |[],n,x,c,h=>nomatch h
 |(y,k)::r,n,x,c,h=>by
  unfold cellsFrom at h;split at h
  ·rename_i hk;rw[jU,gO]at h;rcases h with h|h
   ·exact bq _ (uF r _ x c h)
   ·simp at h;rw[h.1,aB hk];exact bK
  ·exact bq _ (uF r _ x c h)
theorem Ap:∀(names:List (Str×NameKind))(n:Nat)(x:Str),(x,NameKind.cell)∈names->((cellsFrom n names []).lookup x).isSome=true
 |[],n,x,h=>nomatch h
 |(y,k)::r,n,x,h=>by
  unfold cellsFrom;rcases aP.mp h with e|h
  ·cases e;rw[ag (by rfl),jU,xu];cases (cellsFrom (n+1) r []).lookup y with
   |some c=>rfl
   |none=>simp[List.lookup_cons]
  ·have ih:=Ap r;split
   ·rw[jU,xu];have:=ih (n+1) x h;cases e:(cellsFrom (n+1) r []).lookup x with
    |some c=>rfl
    |none=>rw[e]at this;cases this
   ·exact ih n x h
theorem o6{x:Str}{c:Addr}{l:List (Str×Addr)}(h:l.lookup x=some c):(x,c)∈l:=jT h
theorem Aq:∀{l:List (Str×Addr)}{x y:Str}{c:Addr},(l.Pairwise fun p q=>p.2≠q.2)->(x,c)∈l->(y,c)∈l->x=y
 |[],_,_,_,_,h,_=>nomatch h
 |p::l,x,y,c,hp,h,g=>by
  obtain⟨h1,h2⟩:=List.pairwise_cons.mp hp;rcases aP.mp h with e1|h'
  ·rcases aP.mp g with e2|g'
   ·rw[←e1]at e2;cases e2;rfl
   ·exact absurd (show p.2=c by rw[←e1]) (h1 _ g')
  ·rcases aP.mp g with e2|g'
   ·exact absurd (show p.2=c by rw[←e2]) (h1 _ h')
   ·exact Aq h2 h' g'
theorem IN{scope:Scope}{cl:List (Str×Addr)}{h:Heap}(cq:∀y∈scope.names,y.2=.cell->scope.names.lookup y.1=some .cell)(fq:∀y∈scope.names,y.2=.free->scope.names.lookup y.1=some .free)(hcl:∀n c,cl.lookup n=some c->X.env.cells.lookup n=some c/\(∃k,(n,k)∈scope.names/\k=NameKind.free))(hcf:∀y∈scope.names,y.2=.free->(cl.lookup y.1).isSome=true)(C:Addr)(hC:C<h.objs.size)(low:∀n c,X.env.cells.lookup n=some c->c<=C) :
  uE X scope C (pushCells h scope.names) (cellsFrom h.objs.size scope.names cl):=by
 have ok:=cellsFrom_ok scope.names h (C+1) [] ⟨fun _ _ hm=>(nomatch hm),List.Pairwise.nil⟩ hC;have spl:∀x c,(cellsFrom h.objs.size scope.names cl).lookup x=some c->((x,c)∈cellsFrom h.objs.size scope.names [])\/((cellsFrom h.objs.size scope.names []).lookup x=none/\cl.lookup x=some c):=fun x c e=>by
  rw[jU,xu]at e;cases z:(cellsFrom h.objs.size scope.names []).lookup x with
  |some d=>rw[z]at e;cases e;exact .inl (o6 z)
  |none=>rw[z]at e;exact .inr ⟨rfl,by simpa using e⟩
 refine⟨fun x c e=>?_,fun x y c e1 e2 hc=>?_,fun y hy hk=>?_⟩
 ·rcases spl x c e with z|⟨z1,z2⟩
  ·obtain⟨w1,w2⟩:=ok.empty x c z;exact .inr ⟨cq _ (uF _ _ _ _ z) rfl,w2,w1⟩
  ·obtain⟨a,k,b,rfl⟩:=hcl x c z2;refine .inl ⟨?_,a⟩;rw[fq _ b rfl];intro w;cases w
 ·rcases spl x c e1 with z|⟨_,z⟩
  ·rcases spl y c e2 with w|⟨_,w⟩
   ·exact Aq ok.apart z w
   ·exact absurd hc (Nat.not_lt_of_le (low y c (hcl y c w).1))
  ·exact absurd hc (Nat.not_lt_of_le (low x c (hcl x c z).1))
 ·rw[jU,xu];rcases hk with hk|hk
  ·cases (cellsFrom h.objs.size scope.names []).lookup y.1 with
   |some c=>rfl
   |none=>simpa using hcf y hy hk
  ·obtain⟨y1,y2⟩:=y;cases hk;have:=Ap scope.names h.objs.size y1 hy;cases e:(cellsFrom h.objs.size scope.names []).lookup y1 with
   |some c=>rfl
   |none=>rw[e]at this;cases this
theorem IP{N':List Str}{own:Nat}{out:List Nat}{scope:Scope}{cl:List (Str×Addr)}{fp:List Addr}{o1:Obj}{h4:Heap}{t3 t4:Nat}(I:Inv X pins sg H s)(hc:X.calm=true)(W:jS X N' own out scope)
  (hcs:uE X scope (s.heap.push o1).objs.size h4 cl) (hf:∀b∈fp,cA X pins H b) (hfx:∀b∈fp,b<s.heap.objs.size)
  (hns:h4.Ns (s.heap.push o1).objs.size fun _=>none) (hk:∀b o,(s.heap.push o1).get? b=some o->h4.get? b=some o) :
  Inv (iX X N' (s.heap.push o1).objs.size scope cl { s with heap:=s.heap.push o1,toks:=t3 } H (s.heap.objs.size::fp)) [] (List.replicate own none++out.map fun j=>(sg[j]?).getD none) H { s with heap:=h4,toks:=t4 }:=by
 have hsz:(s.heap.push o1).objs.size=s.heap.objs.size+1:=gj ..;have lt:∀{b o},s.heap.get? b=some o->b<s.heap.objs.size:=fun e=>aX e;have up:∀{b o},s.heap.get? b=some o->(s.heap.push o1).get? b=some o:=fun e=>bb _ e;have cellLt:∀{x c},X.env.cells.lookup x=some c->c<s.heap.objs.size:=fun e=>by
  obtain⟨v,o,ho,_⟩:=I.cell _ _ e;exact lt ho
 have kindIn:∀x,(compEnvC scope cl (s.heap.push o1).objs.size X.env).kindOf x=(relabel scope X.env).names.lookup x:=fun x=>rfl;have kinds:∀x,(relabel scope X.env).names.lookup x=some .cell\/(relabel scope X.env).names.lookup x=some .free->scope.names.lookup x=some .free\/scope.names.lookup x=some .cell:=fun x h=>by
  rw[uC]at h;cases q:scope.names.lookup x with
  |none=>rw[q]at h;simp at h
  |some k=>
   rw[q]at h;simp only[Option.map_some,bT]at h;cases k with
   |free=>exact .inl rfl
   |cell=>exact .inr rfl
   |_=>simp at h
 have split:∀x c,cl.lookup x=some c->(c<s.heap.objs.size/\X.env.cells.lookup x=some c)\/((s.heap.push o1).objs.size<c/\h4.IsCell c none):=fun x c e=>by
  rcases hcs.look x c e with ⟨_,z⟩|⟨_,z⟩
  ·exact .inl ⟨cellLt z,z⟩
  ·exact .inr z
 have inj:∀x y c,cl.lookup x=some c->cl.lookup y=some c->x=y:=fun x y c h1 h2=>by
  rcases split x c h1 with ⟨z0,z⟩|⟨z,_⟩
  ·rcases split y c h2 with ⟨_,w⟩|⟨w,_⟩
   ·exact I.ok.inj x y c z w
   ·rw[hsz]at w;exact absurd (m8 z0 (m8 (fO _) w)) (gb _)
  ·exact hcs.inj x y c h1 h2 z
 refine⟨⟨I.ok.mod,?_,I.ok.glob,I.ok.blt,aF _,inj,fun x hx=>?_,(fun x c h e=>?_),fun _=>I.ok.hd hc,I.ok.frames,.inl rfl,fun b hb=>?_,fun b o e=>?_,?_,fun b o e hb=>?_,fun b hb hbs=>?_,?_,?_⟩,
  rfl,I.bare,Un.kept hk,⟨fun _=>none,hns,fun i x v e1 e2 e3=>?_⟩,fun x c e=>?_,?_,fun x c e=>?_,fun p hp=>absurd (show p∈([]:List (Addr×Obj)) from hp) (by simp),I.hok.kept fun b u e=>hk b u (up e),?_⟩
 ·show(relabel scope X.env).kind=.function;exact W.kind
 ·rcases kinds x hx with z|z
  ·exact iA.mp (hcs.has (x,.free) (jT z) (.inl rfl))
  ·exact iA.mp (hcs.has (x,.cell) (jT z) (.inr rfl))
 ·show(s.heap.push o1).objs.size<=c;rcases hcs.look x c e with ⟨z,_⟩|⟨_,z,_⟩
  ·exact absurd (aB h) z
  ·exact pR z
 ·rcases aP.mp hb with rfl|hb
  ·refine⟨?_,fun x c e=>?_⟩
   rotate_left
   ·rcases split x c e with ⟨z,_⟩|⟨z,_⟩
    ·exact bU z
    ·rw[hsz]at z;exact kf (m8 (fO _) z)
   show s.heap.objs.size≠(s.heap.push o1).objs.size;rw[hsz];exact bU (fO _)
  ·obtain⟨f0,f1,f2,f3,f4,f5⟩:=hf b hb;refine⟨?_,fun x c e=>?_⟩
   rotate_left
   ·rcases split x c e with ⟨_,z⟩|⟨z,_⟩
    ·exact f4 x c z
    ·rw[hsz]at z;exact kf (m8 (hfx b hb) (m8 (fO _) z))
   show b≠(s.heap.push o1).objs.size;rw[hsz];exact bU (pY (hfx b hb))
 ·obtain⟨q1,q2⟩:=I.bs b o e;exact⟨up q1,q2⟩
 ·show X.base.objs.size<=(s.heap.push o1).objs.size;rw[hsz];exact Nat.le_succ_of_le (eP I.ok.bsz I.sz)
 ·rcases aP.mp hb with rfl|hb
  ·exact absurd (lt (I.bk _ _ e)) (gb _)
  ·obtain⟨f0,f1,f2,f3,f4,f5⟩:=hf b hb;rcases f3 with q|q
   ·exact I.ok.noex b o e q
   ·exact absurd (eg (aX (I.ok.bs b o e).1) q) (gb _)
 ·have hst:b∈c_ X.stack:=hbs;rcases aP.mp hb with rfl|hb
  ·obtain⟨_,o,ho,_⟩:=I.stack.mem hst;exact absurd (lt ho) (gb _)
  ·obtain⟨f0,f1,f2,f3,f4,f5⟩:=hf b hb;rcases aP.mp (I.stkSub b hst)with z|z
   ·exact f1 z
   ·exact f2 z
 ·exact I.stack.of_keeps fun b o e _=>⟨o,up e,rfl⟩
 ·exact fun b hb=>I.stkFree b hb
 ·by_cases hi:i<own
  ·rw[dI (by simpa using hi),wL,ag hi]at e2;cases e2
  ·obtain⟨k,rfl⟩:∃k,i=own+k:=⟨i-own,by omega⟩
   rw[fP (by simp),wM,Dw,bG]at e2;cases q:out[k]? with
   |none=>rw[q]at e2;cases e2
   |some j=>
    rw[q]at e2;have e4:(sg[j]?).getD none=some v:=eO e2;have e5:sg[j]?=some (some v):=by
     cases z:sg[j]? with
     |none=>rw[z]at e4;cases e4
     |some w=>rw[z]at e4;exact congrArg some e4
    obtain⟨g1,g2⟩:=W.frl k j x q e1;have g3:=W.free (x,.free) (jT g2) rfl;obtain⟨m,hn,hl⟩:=I.loc;obtain⟨u,r,l⟩:=hl j x v g1 e5 (.inr g3);refine⟨u,r,.inr ⟨?_,?_⟩⟩
    ·show(relabel scope X.env).names.lookup x=_\/(relabel scope X.env).names.lookup x=_;rw[uC,g2,Option.map_some];split
     ·exact .inl rfl
     ·exact .inr rfl
    ·obtain⟨c',hc'⟩:=iA.mp (hcs.has (x,.free) (jT g2) (.inl rfl));refine⟨c',hc',?_⟩;have hx':X.env.cells.lookup x=some c':=by
      rcases hcs.look x c' hc' with ⟨_,z⟩|⟨z,_⟩
      ·exact z
      ·rw[g2]at z;cases z
     rcases l with ⟨l1,_⟩|⟨_,c,l2,l3⟩
     ·have l1':X.env.scope.names.lookup x=some .local:=l1;rcases g3 with g3|g3<;>(rw[g3]at l1';cases l1')
     ·rw[hx']at l2;cases l2;exact l3.keeps fun b o e=>hk b o (up e)
 ·rcases split x c e with ⟨_,w⟩|⟨_,w⟩
  ·obtain⟨v,z⟩:=I.cell x c w;exact⟨v,z.keeps fun b o e=>hk b o (up e)⟩
  ·exact⟨none,w⟩
 ·show H (s.heap.push o1).objs.size=none;exact I.hok.fresh (by rw[hsz];exact pS _)
 ·rcases split x c e with ⟨_,w⟩|⟨w,_⟩
  ·exact I.freeC x c w
  ·rw[hsz]at w;exact I.hok.fresh (pR (m8 (fO _) w))
 ·show _=N'.length;rw[W.len];simp
end
end Q
namespace Q
open PySem PySem.Spec PyProof.Rows L2 PySem.SeqAt
noncomputable abbrev NX:Value->Shared->Prop:=fun _ _=>False
theorem mB{α:Type}{M:Model}{A:Around}{t:Sem α}{Q:α->Shared->Prop}{E:Value->Shared->Prop}{s:Shared}(h:wpAny M A t Q NX s):wpAny M A t Q E s:=cY h (fun _ _ q=>q) fun _ _ z=>z.elim
theorem IQ{prog:Program}{w:World}{A:Around}{R:Result->Shared->Prop}{s:Shared}{elt target iter:Expr}{ifs:List Expr}{scope:Scope}{pos:Pos}{it acc:Value}{env:Env}(J:Nat->Shared->Prop)
  (turn:∀n s,J n s->wpAny (model prog w) A (pyNext it) (fun r s1=>match r with
   |none=>R (.ok .next) s1
   |some v=>wpAny (model prog w) A (letOwnedTupleGo target it v) (fun _ s2=>wpAny (model prog w) A (assign target env v) (fun _ s3=>
     wpAny (model prog w) A (forIn ifs true fun c r=>if r=true then do let ok ←isTrue c env (eval c env);pure (ForInStep.yield ok) else pure (ForInStep.yield r)) (fun ok s4=>
      if ok=true then wpAny (model prog w) A (eval elt env) (fun x s5=>wpAny (model prog w) A (call (.builtin "list.append") [acc,x]) (fun _ s6=>∃m,m<n/\J m s6) NX s5) NX s4
      else ∃m,m<n/\J m s4) NX s3) NX s2) NX s1) NX s) (n:Nat) (h:J n s) :
  codeAny (model prog w) A (.compLoop (.ListComp elt [⟨target,iter,ifs,0⟩] scope pos) 0 it acc env) R s:=by
 refine codeAny_loop rfl J (fun n s hJ=>?_) n h;show wpAny _ A ((compTurn (.ListComp elt [⟨target,iter,ifs,0⟩] scope pos) 0 it acc env).onRaise (fun x=>do noteFrame x env;theTreesLotGoes x)) _ _ s
 refine wpAny_noted ?_;rw[compTurn_list];refine ah (p7 (ah (mB (cY (turn n s hJ) (fun r s1 h1=>?_) fun _ _ q=>q))));cases r with
 |none=>exact aA h1
 |some v=>
  refine ah (mB (cY h1 (fun _ s2 h2=>ah (mB (cY h2 (fun _ s3 h3=>ah (mB (cY h3 (fun ok s4 h4=>?_) fun _ _ q=>q))) fun _ _ q=>q))) fun _ _ q=>q));cases ok with
  |false=>exact aA ⟨rfl,h4⟩
  |true=>exact ah (ah (mB (cY h4 (fun x s5 h5=>ah (mB (cY h5 (fun _ s6 h6=>aA (aA ⟨rfl,h6⟩)) fun _ _ q=>q))) fun _ _ q=>q)))
noncomputable def fj(g:Ro->aa->ac (Option PV))(tg:Tg)(ck:Option (Nat×List PV)):List PV->Ro->aa->ac (List PV)
 |[],_,S=>if bw S ck then .ok [] S else .bad
 |x::xs,ro,S=>if bw S ck then (match bx tg x ro with
   |some ro1=>(g ro1 S).bind fun o S1=>(fj g tg ck xs ro1 S1).bind fun ps S2=>.ok (match o with|some p=>p::ps|none=>ps) S2
   |none=>.bad) else .bad
noncomputable def o7(f:Ro->aa->ac PV):Ro->aa->ac (Option PV):=fun ro S=>(f ro S).bind fun p S1=>.ok (some p) S1
noncomputable def o8(c f:Ro->aa->ac PV):Ro->aa->ac (Option PV):=fun ro S=>(c ro S).bind fun q S0=>match aJ S0 q with
 |some true=>(f ro S0).bind fun p S1=>.ok (some p) S1
 |some false=>.ok none S0
 |none=>.bad
theorem Ar(f:Ro->aa->ac PV)(tg:Tg)(ck:Option (Nat×List PV)):∀(xs:List PV)(ro:Ro)(S:aa),bW f tg ck xs ro S=fj (o7 f) tg ck xs ro S
 |[],ro,S=>by simp only[bW,fj]
 |x::xs,ro,S=>by
  simp only[bW,fj,o7,ac.bind_assoc,ac.bind_ok];split
  ·cases bx tg x ro with
   |none=>rfl
   |some ro1=>
    dsimp only;congr 1;funext p S1;rw[Ar f tg ck xs ro1 S1]
  ·rfl
theorem uG(c f:Ro->aa->ac PV)(tg:Tg)(ck:Option (Nat×List PV)):∀(xs:List PV)(ro:Ro)(S:aa),ia c f tg ck xs ro S=fj (o8 c f) tg ck xs ro S
 |[],ro,S=>by simp only[ia,fj]
 |x::xs,ro,S=>by
  simp only[ia,fj,o8,ac.bind_assoc];split
  ·cases bx tg x ro with
   |none=>rfl
   |some ro1=>
    dsimp only;congr 1;funext q S0;cases aJ S0 q with
    |none=>rfl
    |some k=>
     cases k with
     |true=>
      simp only[ac.bind_assoc,ac.bind_ok];congr 1;funext p S1;rw[uG c f tg ck xs ro1 S1]
     |false=>
      simp only[ac.bind_ok];rw[uG c f tg ck xs ro1 S0]
  ·rfl
noncomputable def IR(K:PySem.W.Frag)(H:Hp)(mu:List Addr):Option PV->Option Value->Prop
 |some p,some u=>RV K H mu p u
 |none,none=>True
 |_,_=>False
noncomputable def DG(X:Cx)(ifs:List Expr)(elt:Expr)(g:Ro->aa->ac (Option PV)):Prop:=
 ∀(pins:List (Addr×Obj))(s:Shared)(sg:L2.St)(H:Hp)(mu:List Addr)(ro:Ro)(S:aa)(Q:Option Value->Shared->Prop),Inv X pins sg H s->ap X.K H mu S->bd X.K H mu ro sg->aH X pins sg H mu (IR X.K) (g ro S) Q ->
  wpAny (Mo X) X.A (forIn ifs true fun c r=>if r=true then do let ok ←isTrue c X.env (eval c X.env);pure (ForInStep.yield ok) else pure (ForInStep.yield r)) (fun ok s4=>if ok=true then wpAny (Mo X) X.A (eval elt X.env) (fun x s5=>Q (some x) s5) X.xe s4 else Q none s4) X.xe s
section
variable{X:Cx}{c elt:Expr}{f h:Ro->aa->ac PV}
theorem IS(ha:DE X elt f):DG X [] elt (o7 f):=by
 intro pins s sg H mu ro S Q I m e q;unfold o7 at q;refine wpAny_tests_nil ?_;rw[ag rfl];exact ha pins s sg H mu ro S _ I m e (q.bind fun p S1 u H1 mu1 s1 I1 r1 m1 t1 q1=>q1.use I1 r1 m1 (Step.refl _ _))
theorem IT(hc:DT X c (bg h))(ha:DE X elt f):DG X [c] elt (o8 h f):=by
 intro pins s sg H mu ro S Q I m e q;unfold o8 at q;refine wpAny_tests_one (hc pins s sg H mu ro S _ I m e ?_);unfold bg;cases hh:h ro S with
 |exn c' S'=>rw[hh]at q;exact q
 |bad=>rw[hh]at q;exact q
 |ok x S1=>
  rw[hh]at q;simp only[ac.bind_ok]at q ⊢;cases ht:aJ S1 x with
  |none=>rw[ht]at q;exact q
  |some k=>
   rw[ht]at q;intro b' H' mu' s' I' r m' t;cases r;cases k with
   |true=>
    rw[ag rfl];have q2:=q.step t;exact ha pins s' sg H' mu' ro S1 _ I' m' (t.env e) (aH.bind q2 fun p S2 u H2 mu2 s2 I2 r2 m2 t2 q3=>aH.use (α:=Option PV) q3 I2 r2 m2 (Step.refl _ _))
   |false=>
    rw[av wK];exact aH.use (α:=Option PV) q I' trivial m' t
end
theorem IU{K:PySem.W.Frag}{H:Hp}{mu:List Addr}{ps:List PV}{us:List Value}{p:PV}{u:Value}(a:cf K H mu ps us)(b:RV K H mu p u):cf K H mu (ps++[p]) (us++[u]):=by
 obtain⟨vs,h1,h2⟩:=a;obtain⟨v,h3,h4⟩:=b;exact⟨vs++[v],h1.append (.cons h3 .nil),h2.append (ai.cons h4 ai.nil)⟩
theorem IV{K:PySem.W.Frag}{H:Hp}{mu:List Addr}{ps:List PV}{us:List Value}(a:cf K H mu ps us):ps.length=us.length:=by
 obtain⟨vs,h1,h2⟩:=a;rw[h2.length,h1.length]
section
variable{X:Cx}
inductive CJ(X X':Cx)(im:Itm)(H1:Hp)(mu1:List Addr)(tn:Nat->Heap->Prop)(fp:List Addr)(live:Hp->List Addr->Prop)(D:Addr)(g:Ro->aa->ac (Option PV))(t:Tg)(S2:aa)(ys:List PV)(n:Nat)(s':Shared):Prop
 |mk (i:Nat) (done rest:List PV) (its:List Value) (k:Nat) (sg':L2.St) (H':Hp) (mu':List Addr) (ro':Ro) (S':aa) (hn:n=im.xs.length-i) (hi:i<=im.xs.length) (I:Inv X' [] sg' H' s') (m:ap X.K H' mu' S') (e:bd X.K H' mu' ro' sg') (st:Step H1 mu1 H' mu') (tni:tn i s'.heap)
   (fr:∀b∈fp,H' b=none) (l:live H' mu') (hD:s'.heap.get? D=some { cls:=.type "list",data:=.seq its.toArray k }) (hH:H' D=none) (rv:cf X.K H' mu' done its) (hr:fj g t im.ck (im.xs.drop i) ro' S'=.ok rest S2) (hy:ys=done++rest):CJ X X' im H1 mu1 tn fp live D g t S2 ys n s'
theorem IW{pins:List (Addr×Obj)}{sg:L2.St}{H1:Hp}{mu1:List Addr}{s1:Shared}{S1 S2:aa}{ro:Ro}{N':List Str}{own:Nat}{out:List Nat}{scope:Scope}{cl:List (Str×Addr)}{fp:List Addr}{it:Addr}{tn:Nat->Heap->Prop}{live:Hp->List Addr->Prop}
  {im:Itm}{tgE elt iter:Expr}{ifs:List Expr}{t:Tg}{g:Ro->aa->ac (Option PV)}{pos:Pos}{ys:List PV}{R:Result->Shared->Prop}{h4:Heap}{t4:Nat}
  (I1:Inv X pins sg H1 s1) (hc:X.calm=true) (m1:ap X.K H1 mu1 S1) (e1:bd X.K H1 mu1 ro sg) (T:TQ X.prog X.w X.K tgE im live fp it tn) (st1:tn 0 s1.heap) (f1:∀b∈fp,cA X pins H1 b) (l1:live H1 mu1) (W:jS X N' own out scope)
  (hcs:uE X scope (s1.heap.push { cls:=.type "list",data:=.seq ([]:List Value).toArray }).objs.size h4 cl)
  (ht:∀X',X'.N=N'->X'.env.scope=relabel scope X.env->(∀x,scope.names.lookup x=some .cell->X'.fn x=true)->fi X' tgE t) (hg:∀C s0 H0 ex,DG (iX X N' C scope cl s0 H0 ex) ifs elt g)
  (hy:fj g t im.ck im.xs (bt own out ro) S1=.ok ys S2) (hz:ys.length<=aj)
  (hns:h4.Ns (s1.heap.push { cls:=.type "list",data:=.seq ([]:List Value).toArray }).objs.size fun _=>none) (hk:∀b o,(s1.heap.push { cls:=.type "list",data:=.seq ([]:List Value).toArray }).get? b=some o->h4.get? b=some o)
  (hR:∀H3 mu3 vs s' mC,Inv X pins sg (ay H3 s1.heap.objs.size (.lst vs)) s'->H3 s1.heap.objs.size=none->ai X.K H3 mu3 ys vs->ap X.K H3 mu3 S2->Step H1 mu1 H3 mu3->s'.heap.Ns (s1.heap.push { cls:=.type "list",data:=.seq ([]:List Value).toArray }).objs.size mC ->
   (ay H3 s1.heap.objs.size (.lst vs)) (s1.heap.push { cls:=.type "list",data:=.seq ([]:List Value).toArray }).objs.size=none->s1.heap.objs.size+1=(s1.heap.push { cls:=.type "list",data:=.seq ([]:List Value).toArray }).objs.size->R (.ok .next) s') :
  codeAny (Mo X) X.A (.compLoop (.ListComp elt [⟨tgE,iter,ifs,0⟩] scope pos) 0 (.ref it) (.ref s1.heap.objs.size) (compEnvC scope cl (s1.heap.push { cls:=.type "list",data:=.seq ([]:List Value).toArray }).objs.size X.env)) R { s1 with heap:=h4,toks:=t4 }:=by
 have hl:sizeLine=16777216:=cy;generalize ho1:({ cls:=.type "list",data:=.seq ([]:List Value).toArray }:Obj)=o1 at hns hk hR hcs ⊢;have hsz:(s1.heap.push o1).objs.size=s1.heap.objs.size+1:=gj ..;have hfx:∀b∈fp,b<s1.heap.objs.size:=fun b hb=>by obtain⟨o,e,_⟩:=T.obj _ _ st1 b hb;exact aX e
 have I0:=IP (t3:=s1.toks) (t4:=t4) I1 hc W hcs f1 hfx hns hk;generalize hX:iX X N' (s1.heap.push o1).objs.size scope cl { s1 with heap:=s1.heap.push o1,toks:=s1.toks } H1 (s1.heap.objs.size::fp)=X' at I0;have q1:X'.prog=X.prog:=by rw[←hX];rfl
 have q2:X'.w=X.w:=by rw[←hX];rfl
 have q3:X'.K=X.K:=by rw[←hX];rfl
 have q4:X'.calm=true:=by rw[←hX];rfl
 have q5:X'.A=X.A:=by rw[←hX];rfl
 have q6:X'.env=compEnvC scope cl (s1.heap.push o1).objs.size X.env:=by rw[←hX];rfl
 have q7:X'.xe=NX:=by rw[←hX];rfl
 have q8:X'.N=N':=by rw[←hX];rfl
 have q9:X'.ex=s1.heap.objs.size::fp:=by rw[←hX];rfl
 have q10:X'.s₀={ s1 with heap:=s1.heap.push o1,toks:=s1.toks }:=by rw[←hX];rfl
 have q11:X'.H₀=H1:=by rw[←hX];rfl
 have q12:X'.fs=c_ X.stack:=by rw[←hX];rfl
 have q13:X'.pn=[]:=by rw[←hX];rfl
 have hgX:DG X' ifs elt g:=by rw[←hX];exact hg _ _ _ _
 have htX:fi X' tgE t:=ht X' q8 (by rw[q6];rfl) fun x hx=>by rw[←hX];show(scope.names.lookup x==some NameKind.cell)=true;rw[hx];rfl
 -- the records that may turn
 have fok:∀{H':Hp},(∀b∈fp,H' b=none)->H' s1.heap.objs.size=none->∀b∈s1.heap.objs.size::fp,cA X' [] H' b:=fun {H'} h1 h2 b hb=>by
  have hex:b∈X'.ex:=by rw[q9];exact hb
  obtain⟨n1,n2⟩:=I0.ok.exf b hex;refine⟨?_,n1,I0.ok.exfs b hex,.inl hex,n2,fun p hp=>?_⟩
  ·rcases aP.mp hb with rfl|hb
   ·exact h2
   ·exact h1 b hb
  ·rw[q13]at hp;exact absurd hp (by simp)
 have hA:X.A.handled=none:=I1.ok.hd hc;have hro:bd X.K H1 mu1 (bt own out ro) (List.replicate own none++out.map fun j=>(sg[j]?).getD none):=by
  refine⟨by simp[bt],fun i p hp=>?_⟩;unfold bt at hp;by_cases hi:i<own
  ·rw[dI (by simpa using hi),wL,ag hi]at hp;cases hp
  ·obtain⟨k,rfl⟩:∃k,i=own+k:=⟨i-own,by omega⟩
   rw[fP (by simp),wM,Dw,bG]at hp ⊢;cases q:out[k]? with
   |none=>rw[q]at hp;cases hp
   |some j=>
    rw[q]at hp;have e4:(ro[j]?).getD none=some p:=eO hp;have e5:ro[j]?=some (some p):=by
     cases z:ro[j]? with
     |none=>rw[z]at e4;cases e4
     |some w=>rw[z]at e4;exact congrArg some e4
    obtain⟨v,g1,g2⟩:=e1.val j p e5;exact⟨v,by simp[g1],g2⟩
 have hD4:h4.get? s1.heap.objs.size=some o1:=hk _ _ (by rw[←ho1];exact ci _ rfl);have hDH:H1 s1.heap.objs.size=none:=I1.hok.fresh (aF _);refine IQ (CJ X X' im H1 mu1 tn fp live s1.heap.objs.size g t S2 ys) ?_ im.xs.length
  ⟨0,[],ys,[],0,_,H1,mu1,bt own out ro,S1,by simp,jl _,I0,m1,hro,Step.refl _ _,T.keep _ _ _ st1 fun b hb o e=>hk _ _ (bb _ e),fun b hb=>(f1 b hb).1,l1,by rw[←ho1]at hD4;exact hD4,hDH,⟨[],.nil,ai.nil⟩,by rw[iC];exact hy,rfl⟩
 have hM:Mo X'=Mo X:=by unfold Mo;rw[q1,q2]
 have hDC:s1.heap.objs.size≠X'.env.locals:=by rw[q6];show s1.heap.objs.size≠(s1.heap.push o1).objs.size;rw[hsz];exact bU (fO _)
 have hDfs:s1.heap.objs.size∉X'.fs:=I0.ok.exfs _ (by rw[q9];exact bK);have hDfp:s1.heap.objs.size∉fp:=fun hb=>gb _ (hfx _ hb);rintro n s3 ⟨i,done,rest,its,k,sg3,H3,mu3,ro3,S3,rfl,hle,I3,m3,e3,t3,st3,fr3,l3,hD3,hDH3,hdone,hrest,hys⟩;have hlen:=IV hdone;have hyl:done.length+rest.length<=16777216:=by rw[←en,←hys];exact hz
 have hall:=fok fr3 hDH3;have m3':ap X'.K H3 mu3 S3:=by rw[q3];exact m3
 by_cases hlt:i<im.xs.length
 ·have hd:im.xs.drop i=im.xs[i]::im.xs.drop (i+1):=sd hlt;rw[hd]at hrest;unfold fj at hrest;by_cases hck:bw S3 im.ck=true
  ·rw[ag hck]at hrest;have I3p:Inv X' [(s1.heap.objs.size,{ cls:=.type "list",data:=.seq its.toArray k })] sg3 H3 s3:=I3.pins_of fun p hp=>by
    have:p=(s1.heap.objs.size,{ cls:=.type "list",data:=.seq its.toArray k }):=by simpa using hp
    subst this;exact⟨hD3,hDH3,hDC,hDfs,fun v z=>by cases z⟩
   have fokp:∀{H':Hp},(∀b∈fp,H' b=none)->∀b∈fp,cA X' [(s1.heap.objs.size,{ cls:=.type "list",data:=.seq its.toArray k })] H' b:=fun {H'} h1 b hb=>by
    have hex:b∈X'.ex:=by rw[q9];exact bq _ hb
    obtain⟨n1,n2⟩:=I0.ok.exf b hex;refine⟨h1 b hb,n1,I0.ok.exfs b hex,.inl hex,n2,fun p hp=>?_⟩;rw[q13]at hp;have:p=(s1.heap.objs.size,{ cls:=.type "list",data:=.seq its.toArray k }):=by simpa using hp
    subst this;rintro rfl;exact hDfp hb
   have hit:=T.item X' q1 q2 q3 q4 i im.xs[i] _ s3 sg3 H3 mu3 S3 NX I3p m3 (fokp fr3) st3 l3 hck (a6 hlt);rw[q5]at hit;refine bh hit fun r s4 ⟨u,hr,h5⟩=>?_;subst hr;refine bh h5 fun _ s5 ⟨H5,I5,r5,m5,t5,st5,fr5⟩=>?_;have I5':=I5.pinned (fokp fr5) (T.obj _ _ st5);cases htg:bx t im.xs[i] ro3 with
   |none=>rw[htg]at hrest;cases hrest
   |some ro4=>
    rw[htg]at hrest;dsimp only at hrest;have hN':X'.N.Nodup:=by rw[q8];exact W.nd
    have m5':ap X'.K H5 mu3 S3:=by rw[q3];exact m5
    have e5':bd X'.K H5 mu3 ro3 sg3:=by rw[q3];exact t5.env e3
    have r5':RV X'.K H5 mu3 im.xs[i] u:=by rw[q3];exact r5
    have asg:=qH (Q:=fun s6=>wpAny (Mo X) X.A (forIn ifs true fun c r=>if r=true then do let ok ←isTrue c X'.env (eval c X'.env);pure (ForInStep.yield ok) else pure (ForInStep.yield r)) (fun ok s4=>
      if ok=true then wpAny (Mo X) X.A (eval elt X'.env) (fun x s5=>wpAny (Mo X) X.A (call (.builtin "list.append") [.ref s1.heap.objs.size,x]) (fun _ s6=>∃m,m<im.xs.length-i/\CJ X X' im H1 mu1 tn fp live s1.heap.objs.size g t S2 ys m s6) NX s5) NX s4
      else ∃m,m<im.xs.length-i/\CJ X X' im H1 mu1 tn fp live s1.heap.objs.size g t S2 ys m s4) NX s6) hN' q4 htX htg I5' m5' e5' r5' ?_
    ·rw[hM,q5,q6,q7]at asg;exact asg
    ·intro sg6 s6 I6 e6;cases hgv:g ro4 S3 with
     |exn c' S'=>rw[hgv]at hrest;cases hrest
     |bad=>rw[hgv]at hrest;cases hrest
     |ok o S7=>
      rw[hgv,ac.bind_ok]at hrest;have fin:=hgX _ s6 sg6 H5 mu3 ro4 S3 (fun x s7=>match x with
       |some x=>wpAny (Mo X) X.A (call (.builtin "list.append") [.ref s1.heap.objs.size,x]) (fun _ s6=>∃m,m<im.xs.length-i/\CJ X X' im H1 mu1 tn fp live s1.heap.objs.size g t S2 ys m s6) NX s7
       |none=>∃m,m<im.xs.length-i/\CJ X X' im H1 mu1 tn fp live s1.heap.objs.size g t S2 ys m s7) I6 m5' e6 ?_
      ·rw[hM,q5,q7]at fin;exact fin
      ·rw[hgv];intro x H7 mu7 s7 I7 r7 m7 t7;rw[q3]at r7 m7;cases hrc:fj g t im.ck (im.xs.drop (i+1)) ro4 S7 with
       |exn c' S'=>rw[hrc]at hrest;cases hrest
       |bad=>rw[hrc]at hrest;cases hrest
       |ok rest' S8=>
        rw[hrc,ac.bind_ok]at hrest;have t17:Step H1 mu1 H7 mu7:=(t3.trans t5).trans t7;have e7:bd X.K H7 mu7 ro4 sg6:=t7.env (by rw[q3]at e6;exact e6);have pinAt:∀b∈fp,∀o,s5.heap.get? b=some o->s7.heap.get? b=some o/\H7 b=none:=fun b hb o e=>by
         have:=I7.pin (b,o) (iz _ (iz _ (tQ hb e)));exact⟨this.1,this.2.1⟩
        have st7:tn (i+1) s7.heap:=T.keep _ _ _ st5 fun b hb o e=>(pinAt b hb o e).1;have fr7:∀b∈fp,H7 b=none:=fun b hb=>by
         obtain⟨o,e,_⟩:=T.obj _ _ st5 b hb;exact(pinAt b hb o e).2
        have hD7:=I7.pin (s1.heap.objs.size,{ cls:=.type "list",data:=.seq its.toArray k }) (iz _ (lI _ (by simp)));have I7u:Inv X' [] sg6 H7 s7:=I7.pins_of fun p hp=>absurd hp (by simp);have l7:live H7 mu7:=T.stays _ _ _ _ (T.stays _ _ _ _ l3 t5) t7;cases o with
        |none=>
         cases x with
         |some x=>exact r7.elim
         |none=>
          cases hrest;exact⟨im.xs.length-(i+1),by omega,i+1,done,rest',its,k,sg6,H7,mu7,ro4,S7,rfl,hlt,I7u,m7,e7,t17,st7,fr7,l7,hD7.1,hD7.2.1,(t5.trans t7).rvs hdone,hrc,hys⟩
        |some p=>
         cases x with
         |none=>exact r7.elim
         |some x=>
          cases hrest;rw[List.length_cons]at hyl;have hsmall:its.toArray.size<=sizeLine:=by rw[aQ];omega
          refine iB F.slot_list_append ⟨_,hD7.1,rfl⟩ F.entry_list_append (F.args_list_append_2 _ _) (PySem.list_append s1.heap.objs.size its.toArray k x hsmall) ⟨hD7.1,?_⟩;have up:=PySem.IsL.update hD7.1 (·.push x);have hpush:its.toArray.push x=(its++[x]).toArray:=by simp
          rw[hpush]at up;have hall7:=fok fr7 hD7.2.1;have oth:∀b o,b∉[s1.heap.objs.size]->s7.heap.get? b=some o->(s7.heap.update s1.heap.objs.size (Obj.mapSeq (·.push x))).get? b=some o:=fun b o hb e=>(lL _ _ (by simpa using a7 (by simpa using hb))).trans e;have fD:∀b∈[s1.heap.objs.size],cA X' [] H7 b:=fun b hb=>by
           have e:b=s1.heap.objs.size:=by simpa using hb
           rw[e];exact hall7 _ bK
          have I8:Inv X' [] sg6 H7 { s7 with heap:=s7.heap.update s1.heap.objs.size (Obj.mapSeq (·.push x)),toks:=s7.toks }:=o5 (ch:=[s1.heap.objs.size]) I7u fD oth;refine⟨im.xs.length-(i+1),by omega,i+1,done++[p],rest',its++[x],(if (its++[x]).toArray.size==its.toArray.size then k else k+1),sg6,H7,mu7,ro4,S7,rfl,hlt,I8,m7,e7,t17,T.keep _ _ _ st7 fun b hb o e=>oth b o (by simp;rintro rfl;exact hDfp hb) e,fr7,l7,up,hD7.2.1,IU ((t5.trans t7).rvs hdone) r7,hrc,by rw[Dv];exact hys⟩
  ·rw[av hck]at hrest;cases hrest
 ·have hz':i=im.xs.length:=by omega
  subst hz';rw[Dm]at hrest;unfold fj at hrest;by_cases hck:bw S3 im.ck=true
  ·rw[ag hck]at hrest;cases hrest;have I3p:Inv X' [(s1.heap.objs.size,{ cls:=.type "list",data:=.seq its.toArray k })] sg3 H3 s3:=I3.pins_of fun p hp=>by
    have:p=(s1.heap.objs.size,{ cls:=.type "list",data:=.seq its.toArray k }):=by simpa using hp
    subst this;exact⟨hD3,hDH3,hDC,hDfs,fun v z=>by cases z⟩
   have fokp:∀b∈fp,cA X' [(s1.heap.objs.size,{ cls:=.type "list",data:=.seq its.toArray k })] H3 b:=fun b hb=>by
    have hex:b∈X'.ex:=by rw[q9];exact bq _ hb
    obtain⟨n1,n2⟩:=I0.ok.exf b hex;refine⟨fr3 b hb,n1,I0.ok.exfs b hex,.inl hex,n2,fun p hp=>?_⟩;rw[q13]at hp;have:p=(s1.heap.objs.size,{ cls:=.type "list",data:=.seq its.toArray k }):=by simpa using hp
    subst this;rintro rfl;exact hDfp hb
   have hdn:=T.done X' q1 q2 q3 q4 _ s3 sg3 H3 mu3 _ NX I3p m3 fokp st3 l3 hck;rw[q5]at hdn;refine bh hdn fun r s4 ⟨hr,I4⟩=>?_;subst hr
   -- the list is handed on
   obtain⟨vs,rv,rp⟩:=hdone;have hD4':=I4.pin (s1.heap.objs.size,{ cls:=.type "list",data:=.seq its.toArray k }) (iz _ (by simp));have hvl:vs.length<=sizeLine:=by rw[rv.length,←hlen];omega
   have eH:∀b u,H3 b=some u->b≠s1.heap.objs.size:=fun b u e z=>by rw[z,hDH3]at e;cases e
   have okF:bC X.prog X.w (ay H3 s1.heap.objs.size (.lst vs)) s4.heap:=fun b u e=>by
    by_cases hb:b=s1.heap.objs.size
    ·subst hb;rw[eQ]at e;cases e;exact⟨hvl,its,k,rv,hD4'.1⟩
    ·rw[aR hb]at e;have:=I4.hok b u e;rw[q1,q2]at this;exact this.stay (fun _ _ _ q=>q) (fun c q=>by rw[aR (eH c _ q)];exact q) fun c xs q=>by rw[aR (eH c _ q)];exact q
   have B:=I4.base;rw[q9,q10,q11,q12]at B;have old:∀{b o},s1.heap.get? b=some o->(s1.heap.push o1).get? b=some o/\b≠s1.heap.objs.size:=fun e=>⟨bb _ e,bU (aX e)⟩
   have nin:∀{b o},s1.heap.get? b=some o->b∉fp->b∉s1.heap.objs.size::fp:=fun e hb hm=>(aP.mp hm).elim (old e).2 hb;have U:Un (c_ X.stack) fp H1 (ay H3 s1.heap.objs.size (.lst vs)) s1.heap s4.heap:=by
    refine⟨fun b o e n hs hx=>B.keep b o (old e).1 n hs (nin e hx),fun b o e n hs hx=>B.slot b o (old e).1 n hs (nin e hx),fun b o e n hx=>?_,fun b o e hx=>B.there b o (old e).1 (nin e hx),fun b xs e=>?_,fun b o u e=>?_,fun b ps e=>?_⟩
    ·rw[aR (old e).2];exact B.free b o (old e).1 n (nin e hx)
    ·have:=B.tups b xs e;rw[aR (eH _ _ this)];exact this
    ·have:=B.frzs b o u e;rw[aR (eH _ _ this)];exact this
    ·obtain⟨m',e'⟩:=B.tbls b ps e;exact⟨m',by rw[aR (eH _ _ e')];exact e'⟩
   have IF:Inv X pins sg (ay H3 s1.heap.objs.size (.lst vs)) s4:=I1.call' (by have:=I4.os;rw[q10]at this;exact this) U okF I4.bare fun b hb=>⟨(f1 b hb).2.2.2.1,(f1 b hb).2.1,(f1 b hb).2.2.2.2.1,(f1 b hb).2.2.2.2.2⟩
   obtain⟨mC,hnC,_⟩:=I4.loc;rw[q6]at hnC;refine hR _ mu3 vs s4 mC IF hDH3 ?_ m3 t3 hnC ?_ hsz.symm
   ·rw[hys,lJ];exact rp
   ·have hfree:=I4.free;rw[q6]at hfree;have hne:(s1.heap.push o1).objs.size≠s1.heap.objs.size:=by rw[hsz];exact kf (fO _)
    rw[aR hne];exact hfree
  ·rw[av hck]at hrest;cases hrest
end
end Q
namespace Q
open PySem PySem.Spec PyProof.Rows L2 PySem.SeqAt
noncomputable def gz(gs:Ro->aa->ac (List PV))(k:dJ)(t:Tg)(g:Ro->aa->ac (Option PV))(own:Nat)(out:List Nat):Ro->aa->ac PV:=fun ro S=>(gs ro S).bind fun ps S1=>match a8 S1 k ps with
 |some it=>(fj g t it.ck it.xs (bt own out ro) S1).bind fun ys S2=>if ys.length<=aj then .ok (.lst ys) S2 else .bad
 |none=>.bad
theorem IX{M:Model}{A:Around}{E:Value->Shared->Prop}{s:Shared}{scope:Scope}{globals:Addr}{cl:List (Str×Addr)}{qual:Str}{env:Env}{Q:Env->Shared->Prop}
  (h:Q (newEnv scope s.heap.objs.size globals (cellsFrom (s.heap.push { cls:=.type "dict",data:=.dict #[] }).objs.size scope.names cl) qual none .none (some env) builtinsNs) { s with heap:=pushCells (s.heap.push { cls:=.type "dict",data:=.dict #[] }) scope.names }) :
  wpAny M A (newFunctionEnv scope globals cl [] qual none .none (some env)) Q E s:=by
 simp only[newFunctionEnv,Option.isSome_some,aL];refine ah (wpAny_alloc (ah (wpAny_layCells _ (fun name kind cells=>by cases hkc:kind==NameKind.cell<;>simp[hkc]) _ _ _ _ ?_)));rw[List.forIn_nil];exact ah (aA (aA h))
section
variable{X:Cx}{elt iter tgE:Expr}{ifs:List Expr}{scope:Scope}{pos:Pos}{k:dJ}{t:Tg}{own:Nat}{out:List Nat}{N':List Str}{gs:Ro->aa->ac (List PV)}{g:Ro->aa->ac (Option PV)}
theorem As{use:Option (Value->Sem Unit)}(hc:X.calm=true)(hi:DI X tgE iter k gs)(W:jS X N' own out scope)(ht:∀X',X'.N=N'->X'.env.scope=relabel scope X.env->(∀x,scope.names.lookup x=some .cell->X'.fn x=true)->fi X' tgE t)(hg:∀cl C s0 H0 ex,DG (iX X N' C scope cl s0 H0 ex) ifs elt g)(hs:∀x,foldedSetIterable iter X.env x=pure x)
  {pins:List (Addr×Obj)}{s:Shared}{sg:L2.St}{H:Hp}{mu:List Addr}{ro:Ro}{S:aa}{Q:Value->Shared->Prop}(I:Inv X pins sg H s) (m:ap X.K H mu S) (e:bd X.K H mu ro sg)
  (q:match gz gs k t g own out ro S with
   |.ok p S2=>∀D C H3 mu3 ys vs s' mC,p=.lst ys->Inv X pins sg (ay H3 D (.lst vs)) s'->H3 D=none->ai X.K H3 mu3 ys vs->ap X.K H3 mu3 S2->Step H mu H3 mu3->s'.heap.Ns C mC->(ay H3 D (.lst vs)) C=none->X.s₀.heap.objs.size<=C->C≠X.env.locals->C∉X.fs->(∀x c,X.env.cells.lookup x=some c->c≠C)->(∀p∈X.pn++pins,p.1≠C)->compPost (Mo X) X.A X.xe use Q (.ref D) C (.ok .next) s'
   |_=>False):wpAny (Mo X) X.A (comprehension (.ListComp elt [⟨tgE,iter,ifs,0⟩] scope pos) scope X.env (firstIterPos [⟨tgE,iter,ifs,0⟩] pos) (newList []) false (eval iter X.env) use) Q X.xe s:=by
 obtain⟨cl,hclos,hcl,hcf⟩:=IM (env:=X.env) (scope:=scope) fun y hy hf=>I.ok.has y.1 (W.free y hy hf);refine wpAny_comprehension_free (cl:=cl) (use:=use) rfl hs hclos W.kind W.loc (hi pins s sg H mu ro S _ I m e ?_);unfold gz at q;cases hgs:gs ro S with
 |exn c' S'=>rw[hgs]at q;exact q
 |bad=>rw[hgs]at q;exact q
 |ok ps S1=>
  rw[hgs,ac.bind_ok]at q;dsimp only;cases him:a8 S1 k ps with
  |none=>rw[him]at q;exact q
  |some im=>
   rw[him]at q;dsimp only at q;intro it fp tn live H1 mu1 s1 I1 m1 t1 T st1 f1 l1;cases hy:fj g t im.ck im.xs (bt own out ro) S1 with
   |exn c' S'=>rw[hy]at q;exact q.elim
   |bad=>rw[hy]at q;exact q.elim
   |ok ys S2=>
    rw[hy,ac.bind_ok]at q;by_cases hz:ys.length<=aj
    ·rw[ag hz]at q;refine fQ (IX ?_);dsimp only;obtain⟨h0,hh0⟩:∃h0:Heap,h0=(s1.heap.push { cls:=.type "list",dict:=none,data:=.seq ([]:List Value).toArray }).push { cls:=.type "dict",data:=.dict #[] }:=⟨_,rfl⟩
     rw[←hh0];have hC:(s1.heap.push { cls:=.type "list",dict:=none,data:=.seq ([]:List Value).toArray }).objs.size<h0.objs.size:=by rw[hh0];exact Nat.lt_of_lt_of_eq (fO _) (gj ..).symm
     have low:∀n c,X.env.cells.lookup n=some c->c<=(s1.heap.push { cls:=.type "list",dict:=none,data:=.seq ([]:List Value).toArray }).objs.size:=fun n c ec=>by
      obtain⟨v,o,ho,_⟩:=I1.cell _ _ ec;rw[gj];exact pR (pY (aX ho))
     have hcs:=IN (X:=X) W.celq W.frq hcl hcf _ hC low;have hns:(pushCells h0 scope.names).Ns (s1.heap.push { cls:=.type "list",dict:=none,data:=.seq ([]:List Value).toArray }).objs.size fun _=>none:=by
      rw[hh0];exact(Heap.Ns.new _ (.type "dict")).keeps (pushCells_keeps _ _)
     have hk:∀b o,(s1.heap.push { cls:=.type "list",dict:=none,data:=.seq ([]:List Value).toArray }).get? b=some o->(pushCells h0 scope.names).get? b=some o:=fun b o eb=>pushCells_keeps _ _ b o (by rw[hh0];exact bb _ eb);generalize pushCells h0 scope.names=h4 at hcs hns hk ⊢;generalize cellsFrom h0.objs.size scope.names cl=cl at hcs ⊢;have loop:∀t4,codeAny (Mo X) X.A (.compLoop (.ListComp elt [⟨tgE,iter,ifs,0⟩] scope pos) 0 (.ref it) (.ref s1.heap.objs.size) (compEnvC scope cl (s1.heap.push { cls:=.type "list",data:=.seq ([]:List Value).toArray }).objs.size X.env))
       (compPost (Mo X) X.A X.xe use Q (.ref s1.heap.objs.size) (s1.heap.push { cls:=.type "list",data:=.seq ([]:List Value).toArray }).objs.size) { s1 with heap:=h4,toks:=t4 }:=fun t4=>by
      refine IW I1 hc m1 (t1.env e) T st1 f1 l1 W hcs ht (fun C s0 H0 ex=>hg cl C s0 H0 ex) hy hz hns hk fun H3 mu3 vs s' mC hI hD hr hm hst hnC hfree hsz=>?_;have hge:s1.heap.objs.size<=(s1.heap.push { cls:=.type "list",data:=.seq ([]:List Value).toArray }).objs.size:=by rw[←hsz];exact pS _
      have fz:=I1.fpOk hge (I1.hok.fresh hge);refine q _ _ H3 mu3 ys vs s' mC rfl hI hD hr hm (t1.trans hst) hnC hfree (eP I1.sz hge) fz.2.1 fz.2.2.1 fz.2.2.2.2.1 fz.2.2.2.2.2
     have tn4:tn 0 h4:=T.keep _ _ _ st1 fun b hb o eb=>hk b o (bb _ eb);exact codeAny_compStart_list (loop _) (T.self _ 0 _ _ _ tn4 (loop _))
    ·rw[av hz]at q;exact q.elim
theorem IY(hc:X.calm=true)(hi:DI X tgE iter k gs)(W:jS X N' own out scope)(ht:∀X',X'.N=N'->X'.env.scope=relabel scope X.env->(∀x,scope.names.lookup x=some .cell->X'.fn x=true)->fi X' tgE t)(hg:∀cl C s0 H0 ex,DG (iX X N' C scope cl s0 H0 ex) ifs elt g)(hs:∀x,foldedSetIterable iter X.env x=pure x) :
  DE X (.ListComp elt [⟨tgE,iter,ifs,0⟩] scope pos) (gz gs k t g own out):=by
 intro pins s sg H mu ro S Q I m e q;rw[eval_ListComp];refine As (use:=none) hc hi W ht hg hs I m e ?_;cases hF:gz gs k t g own out ro S with
 |exn c' S'=>rw[hF]at q;exact q
 |bad=>rw[hF]at q;exact q
 |ok p S2=>
  rw[hF]at q;intro D C H3 mu3 ys vs s' mC hp hI hD hr hm hst hnC hfree hge hL hfs hcells hpins;subst hp;refine⟨mC,hnC,fun h' hsb=>?_⟩;have I2:Inv X pins sg (ay H3 D (.lst vs)) { s' with heap:=h',toks:=s'.toks }:=o5 (ch:=[C]) hI (fun b hb=>by
   have eb:b=C:=by simpa using hb
   subst eb;exact⟨hfree,hL,hfs,.inr hge,hcells,hpins⟩) fun b o hb eo=>hsb.extBut b o (by simpa using hb) eo
  exact q.use I2 ⟨.ref D,rfl,iU hm hD hr⟩ (hm.laid hD) (hst.trans (Step.laid hD []))
theorem IZ{i:Nat}{x:Str}{pos' spos:Pos}(hN:X.N.Nodup)(hx:fW X i x)(hc:X.calm=true)(hi:DI X tgE iter k gs)(W:jS X N' own out scope)(ht:∀X',X'.N=N'->X'.env.scope=relabel scope X.env->(∀x,scope.names.lookup x=some .cell->X'.fn x=true)->fi X' tgE t)(hg:∀cl C s0 H0 ex,DG (iX X N' C scope cl s0 H0 ex) ifs elt g)(hs:∀x,foldedSetIterable iter X.env x=pure x)
  (hsw:swapsWith (.ListComp elt [⟨tgE,iter,ifs,0⟩] scope pos) (some (.Name x pos')) spos.line X.env=pure true) :
  DS X (.Assign [.Name x pos'] (.ListComp elt [⟨tgE,iter,ifs,0⟩] scope pos) spos) (fun ro S=>(gz gs k t g own out ro S).bind fun p S1=>.ok (.next (ro.set i (some p))) S1):=by
 intro pins s sg H mu ro S Q I m e q
 try dsimp only at q
 rw[exec_Assign_Name_used _ _ _ _ hsw];refine ah (p7 (ah ?_));show wpAny _ X.A (do let _ ←comprehension (.ListComp elt [⟨tgE,iter,ifs,0⟩] scope pos) scope X.env _ (newList []) false (eval iter X.env) (some (assign (.Name x pos') X.env))) _ _ s
 refine ah (cY (As (use:=some (assign (.Name x pos') X.env)) (Q:=fun _ s'=>Q .next s') hc hi W ht hg hs I m e ?_) (fun _ s' hq=>aA (aA hq)) fun _ _ z=>z);cases hF:gz gs k t g own out ro S with
 |exn c' S'=>rw[hF]at q;exact q
 |bad=>rw[hF]at q;exact q
 |ok p S2=>
  rw[hF]at q;intro D C H3 mu3 ys vs s' mC hp hI hD hr hm hst hnC hfree hge hL hfs hcells hpins;subst hp;obtain⟨v,rv,rp⟩:RV X.K (ay H3 D (.lst vs)) mu3 (.lst ys) (.ref D):=⟨.ref D,rfl,iU hm hD hr⟩
  show wpAny _ _ (assign (.Name x pos') X.env (.ref D)) _ _ _;refine Dp (yK hI hN hx.1 hx.2.1 rv (fun s2 I2 ⟨a,hsa,ha⟩=>?_) hx.2.2);have hCa:C≠a:=by
   rcases ha with rfl|ha
   ·exact hL
   ·exact(hcells x a ha).symm
  refine⟨mC,hnC.sameBut hsa hCa,fun h' hsb=>?_⟩;have I3:Inv X pins (sg.set i (some v)) (ay H3 D (.lst vs)) { s2 with heap:=h',toks:=s2.toks }:=o5 (ch:=[C]) I2 (fun b hb=>by
   have eb:b=C:=by simpa using hb
   subst eb;exact⟨hfree,hL,hfs,.inr hge,hcells,hpins⟩) fun b o hb eo=>hsb.extBut b o (by simpa using hb) eo
  have ht:Step H mu (ay H3 D (.lst vs)) mu3:=hst.trans (Step.laid hD []);exact q.next I3 ((ht.env e).set i rp) (hm.laid hD) ht
end
end Q
namespace Q
open PySem PySem.Spec PyProof.Rows L2 PySem.SeqAt
section
variable{K:PySem.W.Frag}{H:Hp}{mu new:List Addr}
theorem eY.cut{a:Addr}{vs:List V}(h:eY K H (mu++new) a vs):eY K H mu a vs:=by
 rcases h with ⟨h,n⟩|h|h
 ·exact .inl ⟨h,fun z=>n (lI _ z)⟩
 ·exact .inr (.inl h)
 ·exact .inr (.inr h)
mutual
theorem Au:∀{p:PV}{v:V},below mu.length p=true->ak K H (mu++new) p v->ak K H mu p v
 |.non,_,_,h=>by simpa only[ak]using h
 |.bl _,_,_,h=>by simpa only[ak]using h
 |.int _,_,_,h=>by simpa only[ak]using h
 |.str _,_,_,h=>by simpa only[ak]using h
 |.tup ps,_,b,h=>by
  simp only[ak]at h ⊢;simp only[below]at b;obtain⟨a,vs,e,q,r⟩:=h;exact⟨a,vs,e,q,o9 b r⟩
 |.lst ps,_,b,h=>by
  simp only[ak]at h ⊢;simp only[below]at b;obtain⟨a,vs,e,q,r⟩:=h;exact⟨a,vs,e,q.cut,o9 b r⟩
 |.ref n,_,b,h=>by
  simp only[ak]at h ⊢;simp only[below,gT]at b;obtain⟨a,e,q⟩:=h;rw[dI b]at q;exact⟨a,e,q⟩
theorem o9:∀{ps:List PV}{vs:List V},bz mu.length ps=true->ai K H (mu++new) ps vs->ai K H mu ps vs
 |[],vs,_,h=>by simpa only[ai]using h
 |p::ps,vs,b,h=>by
  simp only[bz,aG]at b;simp only[ai]at h ⊢;obtain⟨v,vs',e,h1,h2⟩:=h;exact⟨v,vs',e,Au b.1 h1,o9 b.2 h2⟩
end
mutual
theorem I9:∀{p:PV}{v:V},ak K H mu p v->below mu.length p=true
 |.non,_,_=>by simp only[below]
 |.bl _,_,_=>by simp only[below]
 |.int _,_,_=>by simp only[below]
 |.str _,_,_=>by simp only[below]
 |.tup ps,_,h=>by
  simp only[ak]at h;obtain⟨a,vs,e,q,r⟩:=h;simp only[below];exact qK r
 |.lst ps,_,h=>by
  simp only[ak]at h;obtain⟨a,vs,e,q,r⟩:=h;simp only[below];exact qK r
 |.ref n,_,h=>by
  simp only[ak]at h;obtain⟨a,e,q⟩:=h;simp only[below,gT];exact(bF.mp q).1
theorem qK:∀{ps:List PV}{vs:List V},ai K H mu ps vs->bz mu.length ps=true
 |[],_,_=>by simp only[bz]
 |p::ps,vs,h=>by
  simp only[ai]at h;obtain⟨v,vs',e,h1,h2⟩:=h;simp only[bz,aG];exact⟨I9 h1,qK h2⟩
end
theorem uH{H0 H':Hp}{mu mu':List Addr}{S S1 S2:aa}{p p2:PV}{v:V}(m0:ap K H0 mu S)(m:ap K H' mu' S1)(st:Step H0 mu H' mu')(r:ak K H' mu' p v)(h:bX S S1 p=.ok p2 S2) :
  ∃mu2,ak K H' mu2 p2 v/\ap K H' mu2 S2/\Step H0 mu H' mu2:=by
 have all:p2=p->S2=S1->∃mu2,ak K H' mu2 p2 v/\ap K H' mu2 S2/\Step H0 mu H' mu2:=fun e1 e2=>by
  subst e1;subst e2;exact⟨mu',r,m,st⟩
 obtain⟨new,rfl,hnew⟩:=st.ext;unfold bX at h;have hlen:=m0.len;split at h
 ·rename_i hold;have emb:ap K H' mu (S1.take S.length):=by
   refine⟨by rw[kg];omega,(wU.mp m.nd).1,fun i a o h1 h2=>?_⟩;have hi:i<S.length:=by rw[←hlen];exact(bF.mp h1).1
   rw[CY hi]at h2;have h3:=m.obj i a o (by rw[dI (by omega)];exact h1) h2;have hb:o.below S.length=true:=by
    rcases hold.1 i o hi h2 with z|z
    ·obtain⟨_,vs,_,r4,_⟩:=(m0.obj i a o h1 z).gen;unfold MO.below;rw[←hlen];exact qK r4
    ·exact z
   obtain⟨ho,vs,g1,g2,_,_,mk⟩:=h3.gen;unfold MO.below at hb;rw[←hlen]at hb;exact mk _ _ g1 (o9 hb g2)
  have st':Step H0 mu H' mu:=⟨st.tup,st.frz,st.lst,st.dom,[],by simp,fun _ z=>nomatch z⟩
  split at h
  ·rename_i hb;cases h;rw[←hlen]at hb;exact⟨mu,Au hb r,emb,st'⟩
  ·rename_i hb;cases p with
   |ref n=>
    dsimp only at h;cases hS:S1[n]? with
    |none=>rw[hS]at h;cases h;exact all rfl rfl
    |some o=>
     cases o with
     |dct kvs=>rw[hS]at h;cases h;exact all rfl rfl
     |ins c fs=>rw[hS]at h;cases h;exact all rfl rfl
     |lst xs=>
      rw[hS]at h;dsimp only at h;split at h
      ·rename_i hx;cases h;simp only[ak]at r;obtain⟨a,rfl,hn⟩:=r;obtain⟨vs,g1,g2⟩:=m.obj n a _ hn hS;rw[←hlen]at hx;refine⟨mu,?_,emb,st'⟩;simp only[ak];refine⟨a,vs,rfl,.inl ⟨g1,fun ha=>?_⟩,o9 hx g2⟩;have hnk:¬n<mu.length:=by simpa [below,←hlen]using hb
       obtain⟨j,hj,ej⟩:=pW ha;have e1:(mu++new)[j]?=some a:=by rw[dI hj,a6 hj,ej]
       have:=nB m.nd e1 hn;omega
      ·cases h;exact all rfl rfl
   |_=>cases h;exact all rfl rfl
 ·cases h;exact all rfl rfl
end
theorem I_{K:PySem.W.Frag}{H:Hp}{mu:List Addr}{args:List PV}{vs:List V}{N:List Str}(r:ai K H mu args vs):bd K H mu (args.map some++List.replicate (N.length-args.length) none) (L2.start N vs):=by
 unfold L2.start;refine⟨by simp[r.length],fun i p h=>?_⟩;by_cases hi:i<args.length
 ·rw[dI (by simpa using hi),bG]at h;cases q:args[i]? with
  |none=>rw[q]at h;cases h
  |some p'=>
   rw[q]at h;have e:p'=p:=by simpa using h
   subst e;obtain⟨v,h1,h2⟩:=r.get q;refine⟨v,?_,h2⟩;rw[dI (by rw[aw,←r.length];exact hi),bG,h1];rfl
 ·rw[fP (by simpa using hi),wL]at h;split at h<;>cases h
theorem Ja{K:PySem.W.Frag}{H0 H':Hp}{mu mu':List Addr}{S S1 S2:aa}{c c2:Str}(m0:ap K H0 mu S)(m:ap K H' mu' S1)(st:Step H0 mu H' mu')(h:jN S S1 c=.exn c2 S2) :
  c2=c/\∃mu2,ap K H' mu2 S2/\Step H0 mu H' mu2:=by
 unfold jN at h;split at h
 ·rename_i hc;cases h;have e:bX S S1 .non=.ok .non (S1.take S.length):=by
   unfold bX;rw[ag hc,ag (by simp only[below])]
  obtain⟨mu2,_,a,b⟩:=uH (v:=.non) m0 m st (by simp only[ak]) e;exact⟨rfl,mu2,a,b⟩
 ·cases h;exact⟨rfl,mu',m,st⟩
theorem Av{S S1:aa}{c:Str}:jN S S1 c=.bad\/∃S2,jN S S1 c=.exn c S2:=by
 unfold jN;split
 ·exact .inr ⟨_,rfl⟩
 ·exact .inr ⟨_,rfl⟩
theorem Aw{S S1:aa}{p:PV}{c:Str}{S2:aa}(h:bX S S1 p=.exn c S2):False:=by
 unfold bX at h;split at h
 ·split at h
  ·cases h
  ·split at h
   ·split at h
    ·split at h<;>cases h
    ·cases h
   ·cases h
 ·cases h
section
variable{X:Cx}{a b c:Expr}{f g h:Ro->aa->ac PV}{pos:Pos}
theorem Ax{CX:fA}{k:Nat}{fa:Addr}{fd:FuncData}{ps:List Str}{sp:Sp}{E:XK}{E':Value->Shared->Prop}{pins:List (Addr×Obj)}{sg:L2.St}{H:Hp}{s:Shared}{Q:VK}{us:List Value}{vs:List V}(F:bZ X.prog X.w X.K X.mg X.base CX k fa fd ps sp)(hr:bj k X.A)(hb:Binds X.K fd ps [])
  (I:Inv X pins sg H s) (r:az vs us) (h:sp vs H Q E) (hx:∀e s',CX X.stack H s E e s'->E' e s'):wpAny (model X.prog X.w) X.A (call (.ref fa) us) (EP X pins sg Q) E' s:=by
 have hl:us.length=ps.length:=by rw[←r.length];exact F.len _ _ _ _ h
 have hbd:=hb s us I.kIn (by rw[lJ];exact hl);rw[lJ]at hbd;refine wpAny_call (mX (F.run X.A X.stack s H ⟨us,[]⟩ us vs Q E hr I.env0 hbd r h) fun r s' hq=>?_);cases r with
 |error e=>exact hx e s' hq
 |ok fl=>
  cases fl with
  |ret u=>exact I.after hq
  |next=>exact False.elim hq
  |brk=>exact False.elim hq
  |cont=>exact False.elim hq
noncomputable def EX(X:Cx)(H:Hp)(mu:List Addr)(c:Str)(S':aa):XK:=fun cls _ H'=>∃C mu',cls=.ref C/\X.mg c=some (.ref C)/\ap X.K H' mu' S'/\Step H mu H' mu'
theorem Jb{F:Nat->List PV->aa->ac PV}{i k np:Nat}{fa:Addr}{fd:FuncData}{prm:List Str}(G:bZ X.prog X.w X.K X.mg X.base (cD X.prog X.w) k fa fd prm (dS X.K X.mg F i np))(hr:bj k X.A)(hb:Binds X.K fd prm [])(hnp:∀(args:List PV) S,args.length≠np->F i args S=.bad)
  {pins:List (Addr×Obj)}{s:Shared}{sg:L2.St}{H:Hp}{mu:List Addr}{S:aa}{ps:List PV}{us:List Value}{R:Value->Shared->Prop}{E':Value->Shared->Prop}(I:Inv X pins sg H s) (m:ap X.K H mu S) (r:cf X.K H mu ps us)
  (hok:∀p S',F i ps S=.ok p S'->∀u H' mu' s',Inv X pins sg H' s'->RV X.K H' mu' p u->ap X.K H' mu' S'->Step H mu H' mu'->R u s')
  (hex:∀c S',F i ps S=.exn c S'->∀e s',cD X.prog X.w X.stack H s (EX X H mu c S') e s'->E' e s') (hbad:F i ps S≠.bad):wpAny (Mo X) X.A (call (.ref fa) us) R E' s:=by
 obtain⟨vs,rv,rp⟩:=r;have hl:ps.length=np:=by
  by_cases z:ps.length=np
  ·exact z
  ·exact absurd (hnp ps S z) hbad
 cases hF:F i ps S with
 |bad=>exact absurd hF hbad
 |exn c' S'=>
  refine cY (Ax (X:=X) (E:=EX X H mu c' S') (Q:=fun _ _=>False) G hr hb I rv ⟨mu,S,ps,m,rp,hl,?_⟩ (hex c' S' hF)) (fun u s' ⟨v,H',I',rl,z⟩=>z.elim) (fun _ _ x=>x);rw[hF];exact fun C H' mu' h1 h2 h3=>⟨C,mu',rfl,h1,h2,h3⟩
 |ok p S'=>
  refine cY (Ax (X:=X) (E:=E0) (Q:=fun v H'=>∃mu',ak X.K H' mu' p v/\ap X.K H' mu' S'/\Step H mu H' mu') G hr hb I rv ⟨mu,S,ps,m,rp,hl,?_⟩ (fun e s' z=>by obtain⟨_,_,_,_,_,_,_,_,_,_,_,_,_,_,z⟩:=z;exact z.elim)) (fun u s' ⟨v,H',I',rl,mu',h1,h2,h3⟩=>?_) (fun _ _ x=>x)
  ·rw[hF];exact fun v H' mu' h1 h2 h3=>⟨mu',h1,h2,h3⟩
  ·exact hok p S' hF u H' mu' s' I' ⟨v,rl,h1⟩ h2 h3
end
section
variable{X:Cx}{pos:Pos}
noncomputable def mD(X:Cx)(t:CT)(st:Stmt)(e:Expr):Prop:=∀(pins:List (Addr×Obj))(s:Shared)(sg:L2.St)(H:Hp)(ro:Ro)(Q:Flow->Shared->Prop),Inv X pins sg H s ->
 wpAny (Mo X) X.A (eval e X.env) (fun u s1=>∃p S1 H1 mu1,Inv X pins sg H1 s1/\RV X.K H1 mu1 p u/\ap X.K H1 mu1 S1/\bd X.K H1 mu1 ro sg/\bY X pins H1 mu1 (jM t p ro S1) Q) X.xe s->wpAny (Mo X) X.A (exec st X.env) Q X.xe s
theorem Jc{i:Nat}{x:Str}{pos':Pos}{a:Expr}(hN:X.N.Nodup)(hx:fW X i x)(hs:swapsWith a (some (.Name x pos')) pos.line X.env=pure false):mD X (.asg i) (.Assign [.Name x pos'] a pos) a:=by
 intro pins s sg H0 ro Q I0 h;refine wpAny_Assign_Name (cY h (fun u s1 h1=>?_) fun _ _ z=>z) hs;obtain⟨p,S1,H1,mu1,I1,⟨v,rv,rp⟩,m1,e1,q1⟩:=h1;exact g8 I1 hN hx.1 hx.2.1 rv (fun s2 I2=>q1.next I2 (e1.set i rp) m1 (Step.refl _ _)) hx.2.2
theorem Jd{es:List Expr}{is:List Nat}{k:Nat}{pos':Pos}{a:Expr}(hN:X.N.Nodup)(hc:X.calm=true)(ht:eT X es is)(hs:swapsWithSole [.Tuple es k pos'] a pos.line X.env=pure false)(hw:swappedStores [.Tuple es k pos'] a X.env=pure none) :
  mD X (.asgT is) (.Assign [.Tuple es k pos'] a pos) a:=by
 intro pins s sg H0 ro Q I0 h;refine wpAny_Assign_stores (cY h (fun u s1 h1=>?_) fun _ _ z=>z) hs hw;obtain⟨p,S1,H1,mu1,I1,r1,m1,e1,q1⟩:=h1;simp only[jM]at q1;cases hp:bx (.many is) p ro with
 |none=>rw[hp]at q1;exact q1.elim
 |some ro1=>
  rw[hp]at q1;exact qH hN hc (fi.many (k:=k) (pos:=pos') ht) hp I1 m1 e1 r1 fun sg' s' I' e'=>q1.next I' e' m1 (Step.refl _ _)
theorem Je{a:Expr}:mD X .ret (.Return (some a) pos) a:=by
 intro pins s sg H0 ro Q I0 h;refine wpAny_Return_some (cY h (fun u s1 h1=>?_) fun _ _ z=>z);obtain⟨p,S1,H1,mu1,I1,r1,m1,e1,q1⟩:=h1;exact q1 u sg H1 mu1 s1 I1 r1 m1 (Step.refl _ _)
theorem Jf{a:Expr}(hs:swapsWith a none pos.line X.env=pure false):mD X .exp (.Expr a pos) a:=by
 intro pins s sg H0 ro Q I0 h;refine wpAny_Expr_any (cY h (fun u s1 h1=>?_) fun _ _ z=>z) I0.quiet hs;obtain⟨p,S1,H1,mu1,I1,r1,m1,e1,q1⟩:=h1;exact q1.next I1 e1 m1 (Step.refl _ _)
noncomputable def o_(X:Cx)(e:Expr)(fa:Addr)(gs:Ro->aa->ac (List PV)):Prop:=
 ∀(pins:List (Addr×Obj))(s:Shared)(sg:L2.St)(H:Hp)(mu:List Addr)(ro:Ro)(S:aa)(R:Value->Shared->Prop),Inv X pins sg H s->ap X.K H mu S->bd X.K H mu ro sg ->
  aH X pins sg H mu (cf X.K) (gs ro S) (fun us s1=>wpAny (Mo X) X.A (call (.ref fa) us) R X.xe s1)->wpAny (Mo X) X.A (eval e X.env) R X.xe s
theorem aH.kin{pins:List (Addr×Obj)}{sg:L2.St}{H:Hp}{mu:List Addr}{α β:Type}{rel:Hp->List Addr->α->β->Prop}{r:ac α}{Q:β->Shared->Prop}(h:aH X pins sg H mu rel r Q):aH X pins sg H mu rel r (fun b s'=>X.K.In s'.heap/\Q b s'):=by
 cases r with
 |ok a S=>exact fun b H' mu' s' I r m t=>⟨I.kIn,h b H' mu' s' I r m t⟩
 |exn c S=>exact h
 |bad=>exact h
theorem Jg{fa:Addr}{x:Str}{p:Pos}{a:Expr}{es:List Expr}{gs:Ro->aa->ac (List PV)}(hg:Gl X x)(hm:X.mg x=some (.ref fa))(hk:PySem.W.keepIn X.K (.ref fa)=true)(ha:DA X (a::es) gs)(hdb:(x==("__debug__":Str))=false)(he:starEach (a::es) X.env=(false,eval a X.env)::starEach es X.env)(hpl:(backTo pos (starEach es X.env)).any (·.1)=false) :
  o_ X (.Call (.Name x p) (a::es) [] pos) fa gs:=fun pins s sg H mu ro S R I m e q=>
 iD (lV I hg hm (se (h₀:=X.base) I.ok.mod.kin hk (ha pos pins s sg H mu ro S _ I m e q.kin) he hpl) hdb)
noncomputable def pb(f:Ro->aa->ac PV)(c m:Str)(gs:Ro->aa->ac (List PV)):Ro->aa->ac (List PV):=fun ro S=>((f ro S).bind fun x S1=>bJ S1 c m x).bind fun x S1=>(gs ro S1).bind fun ps S2=>.ok (x::ps) S2
theorem Jh{f:Ro->aa->ac PV}{fa:Addr}{c m:Str}{o e1:Expr}{apos:Pos}{es:List Expr}{gs:Ro->aa->ac (List PV)}{pl:Sem Bool}(hc:mv X.K c m fa)(hk:PySem.W.keepIn X.K (.ref fa)=true)
  (ho:DE X o f) (ha:DA X (e1::es) gs) (hst:starEach (e1::es) X.env=(false,eval e1 X.env)::starEach es X.env) (hpl:(backTo pos (starEach es X.env)).any (·.1)=false)
  (ht:eval (.Call (.Attribute o m apos) (e1::es) [] pos) X.env=(do
   let ov ←eval o X.env
   standAt apos.atName
   let (f,first) ←holding [ov] (getMethod ov m pl)
   callWith pos f first (backTo pos (starEach (e1::es) X.env)) (backToKw pos (keywordEach [] X.env)))) :
  o_ X (.Call (.Attribute o m apos) (e1::es) [] pos) fa (pb f c m gs):=by
 intro pins s sg H mu ro S R I mm e q;unfold pb at q;rw[ac.bind_assoc]at q;refine xl (pl:=pl) (ho pins s sg H mu ro S _ I mm e (q.bind fun x S1 u H1 mu1 s1 I1 r1 m1 t1 q1=>?_)) ht;cases hx:bJ S1 c m x with
 |bad=>rw[hx]at q1;exact q1.elim
 |exn c' S'=>exact(qJ hx).elim
 |ok y S'=>
  rw[hx,ac.bind_ok]at q1;obtain⟨rfl,rfl,n,fs,hi,hl⟩:=qI hx;obtain⟨v',rv',rp'⟩:=id r1;obtain⟨_,hS,a',C,dx,ws,rfl,hn,h1,hC,h2⟩:=jQ m1 hi rp';obtain rfl:u=Value.ref a':=rv';refine qr I1 h1 (hc C hC).1 (hc C hC).2 ((h2.look m).2 hl) ?_;refine se (first:=[.ref a']) (h₀:=X.base) I.ok.mod.kin hk (ha pos pins s1 sg H1 mu1 ro S' _ I1 m1 (t1.env e) (q1.bind fun ps S2 us H2 mu2 s2 I2 r2 m2 t2 q2=>⟨I2.kIn,?_⟩)) hst hpl
  obtain⟨vs,h3,h4⟩:=r2;exact q2.use I2 ⟨.ref a'::vs,.cons rfl h3,ai.cons (t2.rep rp') h4⟩ m2 (Step.refl _ _)
theorem Ji{f:Ro->aa->ac PV}{fa:Addr}{c m:Str}{o:Expr}{apos:Pos}{pl:Sem Bool}(hc:mv X.K c m fa)(hk:PySem.W.keepIn X.K (.ref fa)=true)(ho:DE X o f)
  (ht:eval (.Call (.Attribute o m apos) [] [] pos) X.env=(do
   let ov ←eval o X.env
   standAt apos.atName
   let (f,first) ←holding [ov] (getMethod ov m pl)
   callWith pos f first (backTo pos (starEach [] X.env)) (backToKw pos (keywordEach [] X.env)))) :
  o_ X (.Call (.Attribute o m apos) [] [] pos) fa (pb f c m fun _ S=>.ok [] S):=by
 intro pins s sg H mu ro S R I mm e q;unfold pb at q;rw[ac.bind_assoc]at q;refine xl (pl:=pl) (ho pins s sg H mu ro S _ I mm e (q.bind fun x S1 u H1 mu1 s1 I1 r1 m1 t1 q1=>?_)) ht;cases hx:bJ S1 c m x with
 |bad=>rw[hx]at q1;exact q1.elim
 |exn c' S'=>exact(qJ hx).elim
 |ok y S'=>
  rw[hx,ac.bind_ok,ac.bind_ok]at q1;obtain⟨rfl,rfl,n,fs,hi,hl⟩:=qI hx;obtain⟨v',rv',rp'⟩:=id r1;obtain⟨_,hS,a',C,dx,ws,rfl,hn,h1,hC,h2⟩:=jQ m1 hi rp';obtain rfl:u=Value.ref a':=rv';refine qr I1 h1 (hc C hC).1 (hc C hC).2 ((h2.look m).2 hl) ?_;exact Do (first:=[.ref a']) I1.kIn hk (q1.use (b:=[.ref a']) I1 ⟨[.ref a'],.cons rfl .nil,ai.cons rp' ai.nil⟩ m1 (Step.refl _ _))
theorem Jj{F:Nat->List PV->aa->ac PV}{i k np:Nat}{fa:Addr}{fd:FuncData}{prm:List Str}{e1:Expr}{gs:Ro->aa->ac (List PV)}{t:CT}{st:Stmt}(ct:mD X t st e1)(dc:o_ X e1 fa gs)
  (G:bZ X.prog X.w X.K X.mg X.base (cD X.prog X.w) k fa fd prm (dS X.K X.mg F i np)) (hr:bj k X.A) (hb:Binds X.K fd prm []) (hnp:∀(args:List PV) S,args.length≠np->F i args S=.bad) :
  DS X st (fun ro S=>(gs ro S).bind fun ps S1=>(F i ps S1).andF fun p S2=>jM t p ro S2):=by
 intro pins s sg H mu ro S Q I m e q
 try dsimp only at q
 refine ct pins s sg H ro Q I (dc pins s sg H mu ro S _ I m e (q.bind fun ps S1 us H1 mu1 s1 I1 r1 m1 t1 q1=>?_));refine Jb G hr hb hnp I1 m1 r1 (fun p S' hF u H' mu' s' I' r' m' t'=>?_) (fun c S' hF e' s' hx=>?_) (fun hF=>?_)
 ·rw[hF]at q1;exact⟨p,S',H',mu',I',r',m',(t1.trans t').env e,q1.step t'⟩
 ·rw[hF]at q1;obtain⟨ea,C,t,H',g,l,rfl,os,bare,un,hok,fly,up,hl,C',mu',hC,hmg,emb,gA⟩:=hx;cases hC;refine q1 _ _ ⟨ea,C,pins,sg,H',mu',g,rfl,hmg,?_,emb,gA,.inr ⟨t,l,fly,up,fun b z=>⟨(hl b z).1,(hl b z).2.imp id fun y=>eP I1.sz y⟩⟩⟩;exact I1.call' (s':={ s' with heap:=g }) (ch:=[]) os un hok bare (fun b z=>absurd z (by simp))
 ·rw[hF]at q1;exact q1.elim
noncomputable def k_(K:PySem.W.Frag)(C:Addr):Prop:=PySem.W.excIn K C sx "ValueError.__new__"=true
theorem Jk{K:PySem.W.Frag}{C:Addr}{h₀:Heap}(KX:K.In h₀)(q:k_ K C) :
  ∃bm N nm q bs hdct sn sub ab col dd k0 k1 k2 k3 k5 mN,h₀.get? C=some (excClassObj nm q C N bs bm hdct sn sub ab col dd k0 k1 k2 k3 k5 "ValueError.__new__")/\h₀.Ns N mN/\mN "__init__"=none/\OwnTail h₀ sx bm:=by
 unfold k_ PySem.W.excIn at q;split at q
 ·rename_i dd cd sl ho;split at q
  ·rename_i C' bm k0 k1 k2 k3 n k5 hm hs;simp only[aG,jk,kn]at q;obtain⟨⟨⟨⟨⟨rfl,rfl⟩,hdel⟩,ht⟩,hok⟩,hni⟩:=q;obtain⟨nm,bs,mro,ns,qn,hd,sn,sub,ab,col,del⟩:=cd;dsimp only at hm hdel hok hni;subst hm hdel;have hsl:sl=#[k0,k1,k2,k3,some (.builtin "ValueError.__new__"),k5]:=by
    obtain⟨l⟩:=sl;simp only at hs;rw[hs]
   subst hsl;exact⟨bm,ns,nm,qn,bs,hd,sn,sub,ab,col,dd,k0,k1,k2,k3,k5,_,KX _ _ ho,.of_isNs (PySem.W.isNs_of_in KX hok),PySem.W.nsMap_none_of_in KX hok hni,PySem.W.tail_of_in KX ht⟩
  ·cases q
 ·cases q
theorem Jl{x:Str}{np cpos:Pos}{C:Addr}{a:Expr}{es:List Expr}{gs:Ro->aa->ac (List PV)}(hc:X.calm=true)(hg:Gl X x)(hm:X.mg x=some (.ref C))(hC:k_ X.K C)(ha:DA X (a::es) gs)(hlen:∀ro S ps S1,gs ro S=.ok ps S1->ps.length<=16777216)(hdb:(x==("__debug__":Str))=false)(he:starEach (a::es) X.env=(false,eval a X.env)::starEach es X.env)(hpl:∀cpos,(backTo cpos (starEach es X.env)).any (·.1)=false) :
  DS X (.Raise (some (.Call (.Name x np) (a::es) [] cpos)) none pos) (fun ro S=>(gs ro S).bind fun _ S1=>.exn x S1):=by
 intro pins s sg H mu ro S Q I m e q
 try dsimp only at q
 obtain⟨bm,N,nm,qn,bs,hdct,sn,sub,ab,col,dd,k0,k1,k2,k3,k5,mN,hCo,hN,hni,TL⟩:=Jk I.ok.mod.kin hC;have hl:sizeLine=16777216:=cy;refine wpAny_Raise_call_subT (C:=C) (nm:=nm) (q:=qn) (N:=N) (bs:=bs) (bm:=bm) (hdct:=hdct) (sn:=sn) (sub:=sub) (ab:=ab) (col:=col) (dd:=dd) (k0:=k0) (k1:=k1) (k2:=k2) (k3:=k3) (k5:=k5)
  PySem.F.excBase_ValueError (mN:=mN) (TL.hasType (by decide +kernel)) (I.ok.hd hc) (by rw[he];show(false||(backTo cpos (starEach es X.env)).any (·.1))=false;rw[hpl];rfl) hni (lV I hg hm ⟨rfl,?_⟩ hdb)
 rw[he];refine p5 ?_;have key:∀us s1,(∃ps S1 H1 mu1,gs ro S=.ok ps S1/\Inv X pins sg H1 s1/\cf X.K H1 mu1 ps us/\ap X.K H1 mu1 S1/\Step H mu H1 mu1)->us.length<=sizeLine/\(∀b o,X.base.get? b=some o->s1.heap.get? b=some o) /\
   ∀h' e',Heap.MadeExcOf s1.heap h' e' (.ref C) us->X.xe (.ref e') { s1 with heap:=h' }:=by
  rintro us s1 ⟨ps,S1,H1,mu1,hgs,I1,⟨vs,rv,rp⟩,m1,t1⟩;rw[hgs]at q;refine⟨?_,I1.bk,fun h' e' hx=>?_⟩
  ·rw[←rv.length,←rp.length,hl];exact hlen ro S ps S1 hgs
  ·exact q _ _ ⟨e',C,pins,sg,H1,mu1,s1.heap,rfl,hm,I1,m1,t1,.inl ⟨us,hx⟩⟩
 have hsp:=ha cpos pins s sg H mu ro S (fun us s1=>∃ps S1 H1 mu1,gs ro S=.ok ps S1/\Inv X pins sg H1 s1/\cf X.K H1 mu1 ps us/\ap X.K H1 mu1 S1/\Step H mu H1 mu1) I m e (by
  cases hgs:gs ro S with
  |bad=>rw[hgs]at q;exact q
  |exn c' S'=>rw[hgs]at q;exact q
  |ok ps S1=>exact fun us H1 mu1 s1 I1 r1 m1 t1=>⟨ps,S1,H1,mu1,rfl,I1,r1,m1,t1⟩)
 rw[he]at hsp;exact cY hsp (fun us s1 h1=>by
  obtain⟨k1,k2,k3⟩:=key us s1 h1;exact⟨rfl,k1,k2 _ _ hCo,hN.keeps k2,TL.keeps k2,k3⟩) fun _ _ y=>y
noncomputable abbrev hX(X:Cx)(e:Addr):Cx:={ X with A:=X.A.mark (some (.ref e)),calm:=false,xe:=fun _ _=>False }
end
theorem Jm{P:Program}{w:World}{K:PySem.W.Frag}{mg:Str->Option Value}{base:Heap}{N:List Str}{qual:Str}{sc:Scope}{f:Addr}{cdv:Value}{A:Around}{outer:List Env}{s:Shared}{H:Hp}{E:XK}{mu:List Addr}{c:Str}{S S1:aa}{e:Value}{s':Shared}
  (m:ap K H mu S) (hx:o0 (iP (cD P w) P w K mg base N qual sc f cdv A outer s H E) H mu c S1 e s') (hq:match jN S S1 c with
   |.exn c S'=>∀C H' mu',mg c=some (.ref C)->ap K H' mu' S'->Step H mu H' mu'->E (.ref C) none H'
   |_=>False):(iP (cD P w) P w K mg base N qual sc f cdv A outer s H E).xe e s':=by
 obtain⟨ea,C,pins',sg',H',mu',g,rfl,hmg,I,emb,gA,fl⟩:=hx;rcases Av (S:=S) (S1:=S1) (c:=c)with z|⟨S2,z⟩
 ·rw[z]at hq;exact hq.elim
 rw[z]at hq;obtain⟨_,mu2,e2,st2⟩:=Ja m emb gA z;have fin:=hq C H' mu2 hmg e2 st2;have inl:∀b,b∈c_ (envOfC qual sc s.heap.objs.size f cdv::outer)->b∈c_ outer\/s.heap.objs.size<=b:=fun b hb=>by
  rcases aP.mp (I.stkSub b hb)with y|y
  ·exact .inr (Nat.le_of_eq (show s.heap.objs.size=b from y.symm))
  ·exact .inl y
 rcases fl with ⟨vs,hmade⟩|⟨t,l,fly,up,hl⟩
 ·refine wpAny_leaves_madeW (base:=PySem.W.hideAll g (c_ (envOfC qual sc s.heap.objs.size f cdv::outer))) I.ok.frames rfl (fun b o q=>PySem.W.of_hideAll _ q) (PySem.W.funFrames_hide I.stack fun env he a ha=>wJ.mpr ⟨env,he,ha⟩) hmade fun h' t f1 f2 f3 f4=>?_;exact⟨ea,C,t,H',g,_,rfl,I.os,I.bare,I.base,I.hok,f1,(Heap.UpToSlots.of_keeps hmade.keeps).trans f4,fun b hb=>⟨I.stkFree b hb,inl b hb⟩,fin⟩
 ·refine wpAny_leaves_onW I.ok.frames rfl fly fun h' f1 f2=>?_;exact⟨ea,C,t,H',g,l,rfl,I.os,I.bare,I.base,I.hok,f1,up.trans f2,fun b hb=>⟨(hl b hb).1,(hl b hb).2.elim (inl b) .inr⟩,fin⟩
theorem Jn{P:Program}{w:World}{K:PySem.W.Frag}{mg:Str->Option Value}{base:Heap}{x qual:Str}{st:Stmt}{f:Addr}{fd:FuncData}{N ps:List Str}{k n i:Nat}{D:List fy}{wf:Nat}{d:fy}(F:kM K x qual st f fd)(S:kL N ps (cL st))
  (hd:D[i]?=some d) (hnp:d.np=ps.length) (hnl:d.nl=N.length)
  (hb:∀(cdv:Value)(A:Around)(outer:List Env)(s:Shared)(H:Hp)(E:XK),bj k (A.deeper (envOfC qual (cL st) s.heap.objs.size f cdv))->ik (iP (cD P w) P w K mg base N qual (cL st) f cdv A outer s H E) (fR st) (ar (af D wf n) wf d.body)) :
  bZ P w K mg base (cD P w) (k+1) f fd ps (dS K mg (af D wf (n+1)) i d.np):=by
 obtain⟨oc,od,kV,doc,pm,an,cdv,ct,osl,rfl,lk,hcd⟩:=F.ex;refine E5 lk hcd S (fun vs H Q E h=>?_) (fun A outer s H vs Q E hr h=>?_)
 ·obtain⟨mu,S0,args,_,r,hl,_⟩:=h;rw[←r.length,hl,hnp]
 ·obtain⟨mu,S0,args,m,r,hl,hq⟩:=h;refine⟨fun D' σ H'=>σ=L2.start N vs/\H'=H/\D'={ nx:=fun _ H'=>Q .non H',rt:=Q },fun pins s1 σ H1 D' I ht=>?_,rfl,rfl,rfl⟩;obtain⟨rfl,rfl,rfl⟩:=ht;refine hb cdv A outer s H1 E hr pins s1 _ H1 mu _ S0 _ I m (I_ (N:=N) r) ?_;simp only[af,hd,hl,aL]at hq;rw[hnl,←hl]at hq;cases he:ar (af D wf n) wf d.body (args.map some++List.replicate (N.length-args.length) none) S0 with
  |exn c' S'=>
   rw[he]at hq;dsimp only at hq;refine fun e s' hx=>Jm m hx ?_;rcases Av (S:=S0) (S1:=S') (c:=c')with z|⟨S2,z⟩
   ·rw[z]at hq;exact hq.elim
   ·rw[z]at hq ⊢;exact hq
  |bad=>rw[he]at hq;exact hq
  |ok fl S1=>
   rw[he]at hq;cases fl with
   |next ro1=>
    intro sg' H' mu' s' I' e' m' t';dsimp only at hq;cases hlv:bX S0 S1 .non with
    |exn c' S'=>exact(Aw hlv).elim
    |bad=>rw[hlv]at hq;exact hq.elim
    |ok p2 S2=>
     rw[hlv]at hq;obtain⟨mu2,g1,g2,g3⟩:=uH (v:=.non) m m' t' (by simp only[ak]) hlv;exact⟨sg',H',I',hq _ H' mu2 g1 g2 g3⟩
   |brk ro1=>exact hq.elim
   |cnt ro1=>exact hq.elim
   |ret p=>
    intro u sg' H' mu' s' I' r' m' t';dsimp only at hq;cases hlv:bX S0 S1 p with
    |exn c' S'=>exact(Aw hlv).elim
    |bad=>rw[hlv]at hq;exact hq.elim
    |ok p2 S2=>
     rw[hlv]at hq;obtain⟨v,rv,rp⟩:=r';obtain⟨mu2,g1,g2,g3⟩:=uH m m' t' rp hlv;exact⟨v,sg',H',I',rv,hq _ H' mu2 g1 g2 g3⟩
theorem Jo{D:List fy}{wf n i np:Nat}{d:fy}(hd:D[i]?=some d)(hnp:d.np=np):∀(args:List PV)(S:aa),args.length≠np->af D wf n i args S=.bad:=by
 intro args S h;cases n with
 |zero=>simp only[af]
 |succ n=>
  simp only[af,hd];rw[av (by rw[hnp];exact h)]
end Q
namespace Q
open PySem PySem.Spec PyProof.Rows L2 PySem.SeqAt
structure XC(K:PySem.W.Frag)(C:Addr):Prop where
 ga:PySem.W.findIn K (.ref C) "__getattribute__"=some (some (.builtin "BaseException.__getattribute__"))
 gn:PySem.W.findIn K (.ref C) "__getattr__"=some none
 gc:PySem.W.findIn K (.ref C) "__class__"=some (some (.builtin "object.__class__"))
 ob:PySem.W.subIn K (.ref C) (.type "object")=some true
 be:PySem.W.subIn K (.ref C) (.type "BaseException")=some true
 cl:∃cd,PySem.W.clsIn K C=some cd
section
variable{prog:Program}{w:World}{A:Around}{E:Value->Shared->Prop}{hp:Heap}{gg:Array GenState}{dr:Drawn}{tt:Nat}{os:OsState}{K:PySem.W.Frag}{a C:Addr}
end
structure Jp(k:Nat)(A:Around):Prop where
 dp:A.depth+3*k+5<recursionLimit
 un:A.units+16*k+200<cLine
theorem bj.h{k:Nat}{A:Around}(r:bj k A)(v:Option Value):Jp k (A.mark v):=⟨r.dp,r.un⟩
section
variable{X:Cx}{ea C:Addr}{ob:Obj}{vs:Array Value}
structure OB(X:Cx)(ea C:Addr):Prop where
 pn:∃ob vs,(ea,ob)∈X.pn/\ob.cls=.ref C/\ob.data=.fields vs
 xc:XC X.K C
 gl:Gl X "isinstance"
 mg:X.mg "isinstance"=none
end
theorem jV{v:Option (Option Value)}{a:Addr}(h:refOf v=some a):v=some (some (.ref a)):=by
 unfold refOf at h;split at h
 ·cases h;rfl
 ·cases h
theorem any_some{α:Type}{o:Option α}{p:α->Bool}(h:o.any p=true):∃a,o=some a/\p a=true:=by
 cases o with
 |none=>cases h
 |some a=>exact⟨a,rfl,h⟩
end Q
namespace Q
open PySem PySem.Spec PyProof.Rows L2 PySem.SeqAt
structure TE where
 N:List Str
 names:List (Str×NameKind)
 G:List (Str×GV)
 mt:List (Nat×Nat)
 rs:List Nat:=[]
 own:Str:=""
 ats:List Str:=[]
 me:List (Str×Nat):=[]
noncomputable def fF(x:Str):List Str->Option Nat
 |[]=>none
 |y::ys=>if x==y then some 0 else (fF x ys).map (·+1)
noncomputable def Ay:Operator->Option eD
 |.Add=>some .add|.Sub=>some .sub|.Mult=>some .mul|.FloorDiv=>some .fdiv|.Mod=>some .mod|_=>none
noncomputable def Az:CmpOp->Option ku
 |.Eq=>some .eq|.NotEq=>some .ne|.Lt=>some .lt|.LtE=>some .le|.Gt=>some .gt|.GtE=>some .ge|.In=>some .inn|.NotIn=>some .notin|_=>none
noncomputable def uI(x:Str):Option Ty:=
 if x=="bool" then some .bool else if x=="int" then some .int else if x=="str" then some .str else if x=="tuple" then some .tuple else if x=="list" then some .list else none
noncomputable def uJ(x:Str):Option (Bi×Bool):=
 if x=="tuple" then some (.tuple,true) else if x=="list" then some (.list,true) else if x=="min" then some (.min2,false) else if x=="max" then some (.max2,false) else if x=="sorted" then some (.sorted,false) else if x=="repr" then some (.repr,false) else none
noncomputable def uK(x:Str):Option (Bi×Bool):=
 if x=="len" then some (.len,false) else if x=="all" then some (.all,false) else if x=="any" then some (.any,false) else if x=="sum" then some (.sum,false) else if x=="abs" then some (.abs,false) else uJ x
noncomputable def uL(T:TE)(x:Str)(pos:Pos):Option (Bi×Bool):=if x=="list"&&T.mt.contains (pos.line,pos.col) then some (.listN,true) else uK x
noncomputable def iY(T:TE)(x:Str):Bool:=(match T.G.lookup x with|some .blt=>true|_=>false)&&(T.names.lookup x==some .globalImplicit)
noncomputable def uM(T:TE)(x:Str):Option Ex:=
 if x=="__debug__"||x=="__classdict__" then none else match T.names.lookup x with
  |some .globalImplicit=>(match T.G.lookup x with|some (.con p)=>some (.cst p)|_=>none)
  |some .local=>(fF x T.N).map .loc
  |some .cell=>(fF x T.N).map .loc
  |some .free=>(fF x T.N).map .loc
  |_=>none
noncomputable def cE(f:Expr->Option Ex):List Expr->Option (List Ex)
 |[]=>some []
 |e::es=>(f e).bind fun a=>(cE f es).bind fun as=>some (a::as)
noncomputable def iZ(f:Expr->Option Ex)(mk:Ex->Ex->Ex):List Expr->Option Ex
 |[]=>none
 |[e]=>f e
 |e::es=>(f e).bind fun a=>(iZ f mk es).bind fun b=>some (mk a b)
noncomputable def fk(T:TE)(x:Str):Option Nat:=match T.names.lookup x with
 |some .local=>fF x T.N
 |some .cell=>fF x T.N
 |_=>none
noncomputable def io(T:TE):List Expr->Option (List Nat)
 |[]=>some []
 |.Name x _::es=>(fk T x).bind fun i=>(io T es).bind fun is=>some (i::is)
 |_::_=>none
noncomputable def pd(T:TE):Expr->Option Tg
 |.Name x _=>(fk T x).map .one
 |.Tuple es _ _=>(io T es).map .many
 |_=>none
noncomputable def dD:Expr->List Str
 |.Name x _=>[x]
 |.Tuple es _ _=>es.filterMap fun|.Name x _=>some x|_=>none
 |_=>[]
noncomputable def AA:Expr->Bool
 |.Tuple _ _ _=>true
 |_=>false
noncomputable def lc(l:List Str):List Str->Option (List Nat)
 |[]=>some []
 |x::xs=>(fF x l).bind fun i=>(lc l xs).bind fun is=>some (i::is)
noncomputable def frees(sc:Scope):List Str:=sc.names.filterMap fun y=>if y.2==.free then some y.1 else none
noncomputable def jW(T:TE)(sc:Scope)(N':List Str):Bool:=
 (sc.kind==.function)&&decide N'.Nodup&&sc.names.all (fun y=>(y.2 != .local)||(sc.names.lookup y.1==some .local))&&sc.names.all (fun y=>(y.2 != .cell)||(sc.names.lookup y.1==some .cell)) &&
  sc.names.all (fun y=>(y.2 != .free)||(sc.names.lookup y.1==some .free&&(T.names.lookup y.1==some .cell||T.names.lookup y.1==some .free)))
noncomputable def lf(T:TE)(sc:Scope)(N':List Str):TE:={ N:=N',names:=sc.names,G:=T.G,mt:=T.mt,rs:=T.rs,own:=T.own,ats:=T.ats,me:=T.me }
noncomputable def lg(T:TE)(f:Expr->Option Ex)(tg iter:Expr):Option (dJ×List Ex):=match iter with
 |.Call (.Name x _) args [] _=>
  if iY T x&&x=="range" then (cE f args).bind fun as=>if as.isEmpty then none else some (.range,as)
  else if iY T x&&x=="zip"&&AA tg then (match args with|[_,_]=>(cE f args).bind fun as=>some (.zip,as)|_=>none)
  else (f iter).bind fun a=>some (.seq,[a])
 |.Call (.Name x _) [a] [⟨some y,b,_⟩] _=>if iY T x&&x=="enumerate"&&AA tg&&y=="start" then (f a).bind fun a'=>(f b).bind fun b'=>some (.enumK,[a',b']) else none
 |e=>(f e).bind fun a=>some (.seq,[a])
noncomputable def uN(T:TE)(f:Expr->Option Ex)(x:Str)(args:List Expr)(pos:Pos):Option Ex:=
 if x=="__debug__"||x=="__name__" then none else
 if T.names.lookup x==some .globalImplicit then (match T.G.lookup x with
  |some (.fn i)=>(cE f args).bind fun as=>some (.call i as)
  |some (.own i)=>(match args with|[]=>none|_=>(cE f args).bind fun as=>some (.mk x i as))
  |some .blt=>if x=="isinstance" then (match args with
    |[a,.Name y _]=>if iY T y&&(y != "__debug__")&&(y != "__name__") then (uI y).bind fun t=>(f a).bind fun a'=>some (.bi (.isinst t) [a']) else none
    |_=>none)
   else (match args with
    |[]=>none
    |_=>(uL T x pos).bind fun b=>(cE f args).bind fun as=>some (.bi b.1 as))
  |_=>none) else none
noncomputable def uO:Expr->Bool
 |.Name _ _=>true
 |_=>false
noncomputable def mE:Expr->Bool
 |.Name _ _=>true
 |.Attribute o _ _=>uO o
 |.ListComp _ _ _ _=>true
 |.Subscript _ _ _=>true
 |_=>false
noncomputable def AB(f:Expr->Option Ex)(o:Expr)(name:Str)(e:Expr):Option Ex:=
 if name=="append" then (f o).bind fun a=>(f e).bind fun b=>some (.app a b) else 
 if name=="extend" then (f o).bind fun a=>(f e).bind fun b=>some (.ext a b) else 
 none
noncomputable def uP(f:Expr->Option Ex)(o:Expr)(name:Str)(args:List Expr)(apos pos:Pos):Option Ex:=match args with
 |[e]=>if mE o&&apos.endLine==pos.line then AB f o name e else none
 |[e,d]=>if mE o&&apos.endLine==pos.line&&name=="pop" then (f o).bind fun a=>(f e).bind fun b=>(f d).bind fun c=>some (.pop2 a b c) else if mE o&&apos.endLine==pos.line&&name=="get" then (f o).bind fun a=>(f e).bind fun b=>(f d).bind fun c=>some (.get2 a b c) else none
 |[]=>if mE o&&apos.endLine==pos.line&&name=="pop" then (f o).bind fun a=>some (.pop0 a) else none
 |_=>none
noncomputable def AC:Expr->Bool
 |.Name _ _=>true
 |.Subscript _ _ _=>true
 |_=>false
noncomputable def uQ(T:TE)(f:Expr->Option Ex)(o:Expr)(name:Str)(args:List Expr)(apos pos:Pos):Option Ex:=match T.me.lookup name with
 |some i=>if AC o=true/\(apos.endLine==pos.line)=true/\args.length<30 then (f o).bind fun a=>(cE f args).bind fun as=>some (.mth T.own name i a as) else none
 |none=>uP f o name args apos pos
noncomputable def uR(T:TE)(f:Expr->Option Ex)(o:Expr)(name:Str):Option Ex:=if mE o&&T.ats.contains name then (f o).bind fun a=>some (.fld T.own a name) else none
noncomputable def AD:Expr->Option ao
 |.Constant c _ _=>(match c with|.int i=>some (.inl i)|.str x=>some (.inr x)|_=>none)
 |_=>none
noncomputable def qL:List (Option Expr)->Option (List ao)
 |[]=>some []
 |some e::es=>(AD e).bind fun k=>(qL es).bind fun ks=>some (k::ks)
 |none::_=>none
noncomputable def uS(f:Expr->Option Ex)(keys:List (Option Expr))(vals:List Expr):Option Ex:=
 if keys.length=vals.length/\keys.length<=15 then (qL keys).bind fun ks=>(cE f vals).bind fun es=>some (.dnew ks es) else none
noncomputable def uT(f:Expr->Option Ex):Option Expr->Option Ex
 |none=>some (.cst .non)
 |some e=>f e
noncomputable def AE:Const->Option Ex
 |.int i=>some (.cst (.int i))
 |.bool b=>some (.cst (.bl b))
 |.none=>some (.cst .non)
 |.str x=>some (.cst (.str x))
 |_=>none
noncomputable def isNone:Expr->Bool
 |.Constant c _ _=>(match c with|.none=>true|_=>false)
 |_=>false
noncomputable def OC:Expr->Bool
 |.Constant c _ _=>(match c with|.int i=>i==2|_=>false)
 |_=>false
noncomputable def uU:Expr->Bool
 |.UnaryOp op x _=>(match op,x with|.USub,.Constant (.int i) _ _=>i==1|_,_=>false)
 |_=>false
noncomputable def AF:Expr->Bool
 |.Constant c _ _=>(match c with|.bool b=>b|_=>false)
 |_=>false
noncomputable def Jq(op:UnaryOp)(a:Ex):Option Ex:=match op with
 |.Not=>some (.not a)
 |.USub=>some (.neg a)
 |_=>none
noncomputable def Jr(f:Expr->Option Ex)(op:BoolOp)(vs:List Expr):Option Ex:=match op with
 |.And=>iZ f .and vs
 |.Or=>iZ f .or vs
noncomputable def uV(f:Expr->Option Ex)(l:Expr)(ops:List CmpOp)(rs:List Expr):Option Ex:=match ops,rs with
 |[op],[r]=>if op==.Is then (if isNone r then (f l).bind fun a=>some (.isn a) else none) else if op==.IsNot then (if isNone r then (f l).bind fun a=>some (.isnn a) else none)
  else (Az op).bind fun o=>(f l).bind fun a=>(f r).bind fun b=>some (.cmp o a b)
 |_,_=>none
noncomputable def uW(f:Expr->Option Ex)(v i:Expr):Option Ex:=match i with
 |.Slice lo hi st _=>(match st with
  |none=>(f v).bind fun a=>(uT f lo).bind fun l=>(uT f hi).bind fun h=>some (.slc a l h)
  |some s=>if uU s&&(lo.isNone&&hi.isNone) then (f v).bind fun a=>some (.rev a) else none)
 |_=>(f v).bind fun a=>(f i).bind fun b=>some (.idx a b)
noncomputable def uX(T:TE)(f:Expr->Option Ex)(v i:Expr):Option Ex:=match v with
 |.Name x _=>if (T.names.lookup x==some .globalImplicit)&&!(x=="__debug__") then (match T.G.lookup x with
  |some (.tab D)=>(f i).bind fun k=>some (.tabx D k)
  |_=>none) else none
 |_=>none
noncomputable def uY(T:TE)(f:Expr->Option Ex)(fn:Expr)(args:List Expr)(kws:List Keyword):Option Ex:=match fn,args,kws with
 |.Name x _,[a],[⟨some y,b,_⟩]=>if iY T x&&x=="sorted"&&y=="reverse"&&AF b then (f a).bind fun a'=>some (.bi .sortedR [a']) else none
 |_,_,_=>none
noncomputable def uZ(T:TE)(f:Expr->Option Ex)(x:Str)(args:List Expr):Option Ex:=match args with
 |[.Call fn [a] kws _]=>(match fn,kws with
  |.Name y _,[]=>if x=="len"&&iY T x&&y=="set"&&iY T y then (f a).bind fun m=>some (.lset m) else none
  |_,_=>none)
 |_=>none
noncomputable def u_(T:TE)(f:Expr->Option Ex)(x:Str)(args:List Expr)(pos:Pos):Option Ex:=(match uZ T f x args with|some m=>some m|none=>uN T f x args pos)
noncomputable def va(T:TE)(f:Expr->Option Ex)(fn:Expr)(args:List Expr)(kws:List Keyword)(pos:Pos):Option Ex:=match kws with
 |[]=>(match fn with
  |.Name x _=>u_ T f x args pos
  |.Attribute o name apos=>uQ T f o name args apos pos
  |_=>none)
 |_=>uY T f fn args kws
noncomputable def qM(T:TE)(g:TE->Expr->Option Ex)(elt:Expr)(gens:List Comprehension)(sc:Scope):Option Ex:=match gens with
 |[⟨tg,iter,ifs,as⟩]=>if as=0/\jW T sc (dD tg++frees sc)=true then
   (lc T.N (frees sc)).bind fun out=>(pd (lf T sc (dD tg++frees sc)) tg).bind fun t=>(lg T (g T) tg iter).bind fun ki=>(g (lf T sc (dD tg++frees sc)) elt).bind fun a=>(match ifs with
    |[]=>some (.comp a t ki.1 ki.2 (dD tg).length out)
    |[c]=>(g (lf T sc (dD tg++frees sc)) c).bind fun c'=>some (.compIf a t ki.1 ki.2 c' (dD tg).length out)
    |_=>none) else none
 |_=>none
noncomputable def qN(T:TE)(g:TE->Expr->Option Ex)(e:Expr):Option Ex:=match e with
 |.Constant c _ _=>AE c
 |.Name x _=>uM T x
 |.BinOp l op r pos=>(g T l).bind fun a=>(g T r).bind fun b=>(Ay op).bind fun o=>some (.bin o a b)
 |.UnaryOp op x _=>(g T x).bind fun a=>Jq op a
 |.BoolOp op vs _=>Jr (g T) op vs
 |.Compare l ops rs _=>uV (g T) l ops rs
 |.IfExp c a b _=>(g T c).bind fun c'=>(g T a).bind fun a'=>(g T b).bind fun b'=>some (.ife c' a' b')
 |.Tuple es _ _=>(cE (g T) es).bind fun as=>some (.tup as)
 |.List es pos=>(cE (g T) es).bind fun as=>some (if T.mt.contains (pos.line,pos.col) then .newl as else .lst as)
 |.Subscript v i _=>(match uX T (g T) v i with|some m=>some m|none=>uW (g T) v i)
 |.Call fn args kws pos=>va T (g T) fn args kws pos
 |.ListComp elt gens sc pos=>qM T g elt gens sc
 |.Attribute o name _=>uR T (g T) o name
 |.Dict keys vals _=>uS (g T) keys vals
 |_=>none
noncomputable def bo:Nat->TE->Expr->Option Ex
 |0,_,_=>none
 |n+1,T,e=>qN T (bo n) e
noncomputable def vb(T:TE)(x y:Str)(px py:Pos)(vs:List Expr):Bool:=
 (T.names.lookup x==some .local)&&(T.names.lookup y==some .local)&&(x != y)&&(px.line==py.line)&&!(vs.all (foldedForSure 8))&&!(vs.all (constantsAlone 8))
noncomputable def qO:Expr->Bool
 |.ListComp _ _ _ _=>true
 |.SetComp _ _ _ _=>true
 |.DictComp _ _ _ _ _=>true
 |_=>false
noncomputable def i3(n:Nat)(T:TE):Expr->Option (Nat×CH)
 |.Call fn args kws pos=>(match kws with
  |[]=>(match fn with
   |.Name x _=>if x=="__debug__"||args.isEmpty then none else if T.names.lookup x==some .globalImplicit then (match T.G.lookup x with
    |some (.fn i)=>(cE (bo n T) args).bind fun as=>some (i,.fn as)
    |_=>none) else none
   |.Attribute o name apos=>if uO o=true/\(apos.endLine==pos.line)=true/\args.length<30 then (match T.me.lookup name with
    |some i=>(bo n T o).bind fun a=>(cE (bo n T) args).bind fun as=>some (i,.me T.own name a as)
    |none=>none) else none
   |_=>none)
  |_=>none)
 |_=>none
noncomputable def vc(n:Nat)(T:TE):Stmt->Option (CT×Nat×CH)
 |.Assign [.Name x _] v _=>(fk T x).bind fun j=>(i3 n T v).bind fun c=>some (.asg j,c.1,c.2)
 |.Assign [.Tuple es _ _] v _=>(io T es).bind fun is=>(i3 n T v).bind fun c=>some (.asgT is,c.1,c.2)
 |.Return (some v) _=>(i3 n T v).bind fun c=>some (.ret,c.1,c.2)
 |.Expr v _=>(i3 n T v).bind fun c=>some (.exp,c.1,c.2)
 |_=>none
noncomputable def vd(T:TE)(x:Str):Bool:=(match T.G.lookup x with|some .cls=>true|_=>false)&&(T.names.lookup x==some .globalImplicit)&&!(x=="__debug__")
noncomputable def AG(n:Nat)(T:TE)(exc cause:Option Expr):Option Sx:=match exc,cause with
 |some (.Call fn args kws _),none=>(match fn,args,kws with
  |.Name x _,[a],[]=>if vd T x then (bo n T a).bind fun a'=>some (.raise x [a']) else none
  |_,_,_=>none)
 |_,_=>none
noncomputable def pe(n:Nat)(T:TE)(s:Stmt):Option Sx:=match s with
 |.Raise exc cause _=>AG n T exc cause
 |st=>(vc n T st).bind fun t=>if T.rs.contains t.2.1 then some (.calls t.1 t.2.1 t.2.2) else none
noncomputable def AH:Expr->Bool
 |.Constant c _ _=>(match c with|.str _=>true|_=>false)
 |_=>false
noncomputable def ve(T:TE)(es:List Expr):Bool:=!(es.length==2||es.length==3)||es.any fun|.Name x _=>T.names.lookup x==some .cell|_=>false
noncomputable def vf(T:TE)(x y z:Str)(px py pz:Pos)(vs:List Expr):Bool:=
 (T.names.lookup x==some .local)&&(T.names.lookup y==some .local)&&(T.names.lookup z==some .local)&&(x != y)&&(x != z)&&(y != z)&&(px.line==py.line)&&(px.line==pz.line)&&!(vs.all (foldedForSure 8))&&!(vs.all (constantsAlone 8))
noncomputable def Js:Expr->Option (Str×Pos)
 |.Name x p=>some (x,p)
 |_=>none
noncomputable def mF:List Expr->Option (List (Str×Pos))
 |[]=>some []
 |e::es=>(Js e).bind fun x=>(mF es).bind fun xs=>some (x::xs)
noncomputable def vg(n:Nat)(T:TE)(es vs:List Expr):Option Sx:=if vs.all (foldedForSure 8)||ve T es then (io T es).bind fun is=>(cE (bo n T) vs).bind fun as=>some (.asgT is (.tup as)) else match mF es with
 |some nms=>(match nms,vs with
  |[(x,px),(y,py)],[a,b]=>if vb T x y px py [a,b] then (fk T x).bind fun i=>(fk T y).bind fun j=>(cE (bo n T) [a,b]).bind fun as=>if i==j then none else some (.par [i,j] as) else none
  |[(x,px),(y,py),(z,pz)],[a,b,c]=>if vf T x y z px py pz [a,b,c] then (fk T x).bind fun i=>(fk T y).bind fun j=>(fk T z).bind fun l=>(cE (bo n T) [a,b,c]).bind fun as=>if i==j||i==l||j==l then none else some (.par [i,j,l] as) else none
  |_,_=>none)
 |none=>none
noncomputable def vh(n:Nat)(T:TE)(t v:Expr):Option Sx:=match t with
 |.Name x _=>(fk T x).bind fun i=>(bo n T v).bind fun a=>some (.asg i a)
 |.Tuple es _ _=>(match v with
  |.Tuple vs _ _=>vg n T es vs
  |v=>if qO v then none else (io T es).bind fun is=>(bo n T v).bind fun a=>some (.asgT is a))
 |.Attribute o name _=>if T.ats.contains name then (bo n T v).bind fun y=>(bo n T o).bind fun a=>some (.setf T.own a name y) else none
 |.Subscript o i _=>(bo n T v).bind fun y=>(bo n T o).bind fun a=>(bo n T i).bind fun k=>some (.seti a k y)
 |_=>none
noncomputable def qP:Operator->Option eD
 |.Add=>some .add
 |.Sub=>some .sub
 |_=>none
noncomputable def vi(n:Nat)(T:TE)(t:Expr)(op:Operator)(v:Expr):Option Sx:=match t with
 |.Name x _=>(qP op).bind fun o=>(fk T x).bind fun i=>(bo n T v).bind fun a=>some (.aug i o a)
 |.Attribute ob name _=>if T.ats.contains name then (qP op).bind fun o=>(bo n T ob).bind fun a=>(bo n T v).bind fun y=>some (.augf T.own a name o y) else none
 |.Subscript ob i _=>(qP op).bind fun o=>(bo n T ob).bind fun a=>(bo n T i).bind fun k=>(bo n T v).bind fun y=>some (.augi a k o y)
 |_=>none
noncomputable def qQ(n:Nat)(T:TE)(r:List Stmt->Option (List Sx))(s:Stmt):Option Sx:=match s with
 |.Assign ts v _=>(match ts with|[t]=>vh n T t v|_=>none)
 |.Expr v _=>if AH v then some .pass else if qO v then none else (bo n T v).bind fun a=>some (.exp a)
 |.Return o _=>(match o with|some v=>(bo n T v).bind fun a=>some (.ret a)|none=>some .retN)
 |.If c a b _=>(bo n T c).bind fun c'=>(r a).bind fun a'=>(r b).bind fun b'=>some (.ite c' a' b')
 |.For tg iter body oe _=>(match oe with
  |[]=>(pd T tg).bind fun t=>(lg T (bo n T) tg iter).bind fun ki=>(r body).bind fun b=>some (.for_ t ki.1 ki.2 b)
  |_=>none)
 |.While c body oe _=>(match oe with
  |[]=>(bo n T c).bind fun c'=>(r body).bind fun b=>some (.whl c' b)
  |_=>none)
 |.AugAssign t op v _=>vi n T t op v
 |.Pass _=>some .pass
 |.Break _=>some .brk
 |.Continue _=>some .cnt
 |_=>none
noncomputable def i6:Nat->TE->List Stmt->Option (List Sx)
 |_,_,[]=>some []
 |0,_,_::_=>none
 |n+1,T,s::ss=>(match pe n T s with|some a=>some a|none=>qQ n T (i6 n T) s).bind fun a=>(i6 n T ss).bind fun as=>some (a::as)
end Q
namespace Q
open PySem PySem.Spec PyProof.Rows L2 PySem.SeqAt
structure bf(X:Cx)(T:TE)(F:Nat->List PV->aa->ac PV):Prop where
 N:X.N=T.N
 nd:T.N.Nodup
 look:∀x k,T.names.lookup x=some k->X.env.scope.names.lookup x=some k\/(k=.free/\X.env.scope.names.lookup x=some .cell)
 fnc:∀x,T.names.lookup x=some .cell->X.fn x=true
 con:∀x p,T.G.lookup x=some (.con p)->∃u v,X.mg x=some u/\RelV v u/\∀H mu,ak X.K H mu p v
 blt:∀x,T.G.lookup x=some .blt->X.mg x=none
 tab:∀x D,T.G.lookup x=some (.tab D)->∃a,X.mg x=some (.ref a)/\mx X.K D a
 fns:∀x i,T.G.lookup x=some (.fn i)->∃fa fd prm np k,X.mg x=some (.ref fa)/\bZ X.prog X.w X.K X.mg X.base (cD X.prog X.w) k fa fd prm (dS X.K X.mg F i np)/\bj k X.A/\Binds X.K fd prm []/\PySem.W.keepIn X.K (.ref fa)=true/\∀(args:List PV) S,args.length≠np->F i args S=.bad
 cls:∀x,T.G.lookup x=some .cls->∃C,X.mg x=some (.ref C)/\k_ X.K C
 own:∀x i,T.G.lookup x=some (.own i)->∃C fa fd prm np k,X.mg x=some (.ref C)/\PySem.W.nsIn X.K mainGlobals x=some (some (.ref C))/\Mk X.K C fa/\bZ X.prog X.w X.K X.mg X.base (cD X.prog X.w) k fa fd prm (dS X.K X.mg F i np)/\bj (k+1) X.A/\Binds X.K fd prm []/\∀(args:List PV) S,args.length≠np->F i args S=.bad
 ats:∀f,f∈T.ats->o3 X.K T.own f
 met:∀m i,T.me.lookup m=some i->∃fa fd prm np k,mv X.K T.own m fa/\bZ X.prog X.w X.K X.mg X.base (cD X.prog X.w) k fa fd prm (dS X.K X.mg F i np)/\bj k X.A/\Binds X.K fd prm []/\PySem.W.keepIn X.K (.ref fa)=true/\∀(args:List PV) S,args.length≠np->F i args S=.bad
 calm:X.calm=true
 gd:X.A.guards=some []
 un:X.A.units+64<cLine
 pass:PassesOwn (Mo X) X.A X.env X.xe
section
variable{X:Cx}{T:TE}{F:Nat->List PV->aa->ac PV}
theorem bf.gl(h:bf X T F){x:Str}(e:T.names.lookup x=some .globalImplicit):Gl X x:=by
 rcases h.look x _ e with z|⟨z,_⟩
 ·exact z
 ·cases z
theorem pf:∀{l:List Str}{x:Str}{i:Nat},fF x l=some i->l[i]?=some x
 |[],x,i,h=>by cases h
 |y::ys,x,i,h=>by
  unfold fF at h;split at h
  ·rename_i hx;cases h;rw[aB hx];rfl
  ·cases e:fF x ys with
   |none=>rw[e]at h;cases h
   |some j=>
    rw[e]at h;cases h;show(y::ys)[j+1]?=some x;rw[List.getElem?_cons_succ];exact pf e
theorem Jt{x:Str}{l:List Str}{m:Ex}(h:(fF x l).map Ex.loc=some m):∃i,l[i]?=some x/\m=.loc i:=by
 cases e:fF x l with
 |none=>rw[e]at h;cases h
 |some j=>rw[e]at h;cases h;exact⟨j,pf e,rfl⟩
theorem Ju{e:Expr}(h1:∀x p,e≠.UnaryOp .Not x p)(h2:∀o v p,e≠.BoolOp o v p)(h3:∀a b c p,e≠.IfExp a b c p)(h4:∀a b c p,e≠.Compare a b c p)(env:Env)(whole:Sem Value) :
  PySem.isTrue e env whole=(do let v ←whole;standAt e.pos;holding [v] (truthy v)):=by
 cases e with
 |UnaryOp op x p=>cases op with
  |Not=>exact absurd rfl (h1 _ _)
  |_=>rfl
 |BoolOp=>exact absurd rfl (h2 _ _ _)
 |IfExp=>exact absurd rfl (h3 _ _ _ _)
 |Compare=>exact absurd rfl (h4 _ _ _ _)
 |_=>rfl
theorem Jv(h:bf X T F){x:Str}{pos:Pos}{m:Ex}(e:uM T x=some m):DE X (.Name x pos) (ae F m):=by
 unfold uM at e;split at e
 ·cases e
 ·rename_i hx;simp only[gU,lR,Dx]at hx;have vis:∀{k},T.names.lookup x=some k->(k=.local\/k=.cell\/k=.free)->nA X.env.scope x:=fun {k} hk hh=>by
   rcases h.look x k hk with z|⟨_,z⟩
   ·rcases hh with rfl|rfl|rfl
    ·exact .inl z
    ·exact .inr (.inl z)
    ·exact .inr (.inr z)
   ·exact .inr (.inl z)
  have go:∀{k},T.names.lookup x=some k->(k=.local\/k=.cell\/k=.free)->(fF x T.N).map Ex.loc=some m->DE X (.Name x pos) (ae F m):=fun {k} hk hh e=>by
   obtain⟨i,hi,rfl⟩:=Jt e;have q:=FR (X:=X) (pos:=pos) (by rw[h.N];exact hi) (vis hk hh) hx.1 hx.2;have z:ae F (.loc i)=fun ro S=>match ro[i]? with|some (some p)=>.ok p S|_=>.bad:=rfl
   rw[z];exact q
  split at e
  ·rename_i hk;split at e
   ·rename_i p hp;cases e;obtain⟨u,v,hm,r,hr⟩:=h.con x p hp;have z:ae F (.cst p)=fun ro S=>.ok p S:=rfl;rw[z];exact oS (yN (h.gl hk) hm r hx.1) (fun sg H=>⟨rfl,fun mu=>hr H mu⟩)
   ·cases e
  ·rename_i hk;exact go hk (.inl rfl) e
  ·rename_i hk;exact go hk (.inr (.inl rfl)) e
  ·rename_i hk;exact go hk (.inr (.inr rfl)) e
  ·cases e
theorem aq{α β:Type}{o:Option α}{k:α->Option β}{b:β}(h:o.bind k=some b):∃a,o=some a/\k a=some b:=by
 cases o with
 |none=>cases h
 |some a=>exact⟨a,rfl,h⟩
noncomputable def cR(X:Cx)(F:Nat->List PV->aa->ac PV)(f:Expr->Option Ex):Prop:=∀e m,f e=some m->DE X e (ae F m)/\DT X e (bg (ae F m))
noncomputable def dW(f:Expr->Option Ex):Prop:=∀e m,f e=some m->∀x p,e≠.Starred x p
theorem cU{e:Expr}(h:∀x p,e≠.Starred x p)(es:List Expr)(env:Env):starEach (e::es) env=(false,eval e env)::starEach es env:=by
 cases e with
 |Starred=>exact absurd rfl (h _ _)
 |_=>rfl
theorem bQ{f:Expr->Option Ex}(hf:cR X F f)(hs:dW f):∀{es:List Expr}{ms:List Ex},cE f es=some ms->DA X es (aD F ms)/\(∀pos,(backTo pos (starEach es X.env)).any (·.1)=false)
 |[],ms,h=>by
  cases h;have z:aD F []=fun ro S=>.ok [] S:=rfl;rw[z];exact⟨F8,fun pos=>rfl⟩
 |e::es,ms,h=>by
  unfold cE at h;obtain⟨a,ha,h⟩:=aq h;obtain⟨as,has,h⟩:=aq h;cases h;obtain⟨h1,h2⟩:=bQ hf hs has;have st:=cU (hs e a ha) es X.env;have z:aD F (a::as)=fun ro S=>(ae F a ro S).bind fun p S1=>(aD F as ro S1).bind fun ps S2=>.ok (p::ps) S2:=rfl;rw[z];refine⟨F9 (hf e a ha).1 h1 st,fun pos=>?_⟩;rw[st];show(false||((backTo pos (starEach es X.env)).any (·.1)))=false;rw[h2 pos];rfl
theorem fm{f:Expr->Option Ex}{e:Expr}{es:List Expr}{ms:List Ex}(h:cE f (e::es)=some ms):∃a as,f e=some a/\cE f es=some as/\ms=a::as:=by
 unfold cE at h;obtain⟨a,ha,h⟩:=aq h;obtain⟨as,has,h⟩:=aq h;cases h;exact⟨a,as,ha,has,rfl⟩
theorem vj{f:Expr->Option Ex}(hf:cR X F f){pos:Pos}:∀{es:List Expr}{m:Ex},iZ f .and es=some m->DE X (.BoolOp .And es pos) (ae F m)/\DW X (.BoolOp .And es pos) (bg (ae F m))
 |[],m,h=>by cases h
 |[e],m,h=>by
  unfold iZ at h;exact⟨zG (hf e m h).1,F5 (hf e m h).2⟩
 |e::e'::es,m,h=>by
  unfold iZ at h;obtain⟨a,ha,h⟩:=aq h;obtain⟨b,hb,h⟩:=aq h;cases h;obtain⟨h1,h2⟩:=vj (pos:=pos) hf hb;have z:ae F (.and a b)=fun ro S=>(ae F a ro S).bind fun x S1=>match aJ S1 x with|some true=>ae F b ro S1|some false=>.ok x S1|none=>.bad:=rfl
  rw[z];exact⟨FZ (hf e a ha).1 h1,F3 (hf e a ha).2 h2⟩
theorem vk{f:Expr->Option Ex}(hf:cR X F f){pos:Pos}:∀{es:List Expr}{m:Ex},iZ f .or es=some m->DE X (.BoolOp .Or es pos) (ae F m)/\DW X (.BoolOp .Or es pos) (bg (ae F m))
 |[],m,h=>by cases h
 |[e],m,h=>by
  unfold iZ at h;exact⟨zG (hf e m h).1,F6 (hf e m h).2⟩
 |e::e'::es,m,h=>by
  unfold iZ at h;obtain⟨a,ha,h⟩:=aq h;obtain⟨b,hb,h⟩:=aq h;cases h;obtain⟨h1,h2⟩:=vk (pos:=pos) hf hb;have z:ae F (.or a b)=fun ro S=>(ae F a ro S).bind fun x S1=>match aJ S1 x with|some true=>.ok x S1|some false=>ae F b ro S1|none=>.bad:=rfl
  rw[z];exact⟨F0 (hf e a ha).1 h1,F4 (hf e a ha).2 h2⟩
theorem Jw{op:Operator}{o:eD}(h:Ay op=some o):jO X (binaryOp op) (fun S x y=>aN S o x y):=by
 refine Gj op o ?_;cases op<;>cases h<;>rfl
theorem AI(hu:X.A.units+64<cLine){op:CmpOp}{o:ku}(h:Az op=some o):jO X (compareOp op) (fun S x y=>aK S o x y):=by
 refine Gk hu op o ?_;cases op<;>cases h<;>rfl
theorem AJ{op:CmpOp}{e:Expr}(h:∀x k p,e≠.Set x k p):behindInMarks op e=false:=by
 cases e with
 |Set=>exact absurd rfl (h _ _ _)
 |_=>rfl
end
end Q
namespace Q
open PySem PySem.Spec PyProof.Rows L2 PySem.SeqAt
section
variable{X:Cx}{T:TE}{F:Nat->List PV->aa->ac PV}
structure i7(X:Cx)(T:TE):Prop where
 N:X.N=T.N
 look:∀x k,T.names.lookup x=some k->X.env.scope.names.lookup x=some k\/(k=.free/\X.env.scope.names.lookup x=some .cell)
 fnc:∀x,T.names.lookup x=some .cell->X.fn x=true
theorem bf.nm(h:bf X T F):i7 X T:=⟨h.N,h.look,h.fnc⟩
theorem ip(h:i7 X T){x:Str}{i:Nat}(e:fk T x=some i):fW X i x:=by
 unfold fk at e;split at e
 ·rename_i hk;rcases h.look x _ hk with z|⟨z,_⟩
  ·exact⟨by rw[h.N];exact pf e,.inl z,.inr z⟩
  ·cases z
 ·rename_i hk;rcases h.look x _ hk with z|⟨z,_⟩
  ·exact⟨by rw[h.N];exact pf e,.inr z,.inl (h.fnc x hk)⟩
  ·cases z
 ·cases e
theorem ph(h:i7 X T):∀{es:List Expr}{is:List Nat},io T es=some is->eT X es is
 |[],is,e=>by unfold io at e;cases e;exact .nil
 |.Name x p::es,is,e=>by
  unfold io at e;obtain⟨i,hi,e⟩:=aq e;obtain⟨js,hj,e⟩:=aq e;cases e;exact .cons (ip h hi) (ph h hj)
 |.BoolOp ..::_,_,e|.NamedExpr ..::_,_,e|.BinOp ..::_,_,e|.UnaryOp ..::_,_,e|.Lambda ..::_,_,e|.IfExp ..::_,_,e|.Dict ..::_,_,e|.Set ..::_,_,e|.ListComp ..::_,_,e|.SetComp ..::_,_,e|.DictComp ..::_,_,e|.GeneratorExp ..::_,_,e|.Await ..::_,_,e|.Yield ..::_,_,e|.YieldFrom ..::_,_,e|.Compare ..::_,_,e|.Call ..::_,_,e|.FormattedValue ..::_,_,e|.JoinedStr ..::_,_,e|.Constant ..::_,_,e|.Attribute ..::_,_,e|.Subscript ..::_,_,e|.Starred ..::_,_,e|.List ..::_,_,e|.Tuple ..::_,_,e|.Slice ..::_,_,e=>by simp[io]at e
theorem AK(h:i7 X T){tg:Expr}{t:Tg}(e:pd T tg=some t):fi X tg t:=by
 unfold pd at e;split at e
 ·rename_i x p;cases e1:fk T x with
  |none=>rw[e1]at e;cases e
  |some i=>rw[e1]at e;cases e;exact .one (ip h e1)
 ·rename_i es k p;cases e1:io T es with
  |none=>rw[e1]at e;cases e
  |some is=>rw[e1]at e;cases e;exact .many (ph h e1)
 ·cases e
theorem lh(h:bf X T F){x:Str}(e:iY T x=true):Gl X x/\X.mg x=none:=by
 unfold iY at e;rw[aG]at e;have e2:=aB e.2;refine⟨h.gl e2,?_⟩;have e1:=e.1;split at e1
 ·rename_i z;exact h.blt x z
 ·cases e1
theorem vm{a:Ex}:aD F [a]=fun ro S=>(ae F a ro S).bind fun p S1=>(ac.ok ([]:List PV) S1).bind fun ps S2=>.ok (p::ps) S2:=by
 funext ro S;rw[jK];cases ae F a ro S<;>rfl
theorem AL(h:bf X T F){f:Expr->Option Ex}(hf:cR X F f)(hs:dW f){tg iter:Expr}{k:dJ}{as:List Ex}(e:lg T f tg iter=some (k,as)):DI X tg iter k (aD F as):=by
 unfold lg at e;have sq:∀{e':Expr},((f e').bind fun a=>some (dJ.seq,[a]))=some (k,as)->DI X tg e' k (aD F as):=fun {e'} z=>by
  obtain⟨a,ha,z⟩:=aq z;cases z;rw[vm];exact H9 (hf _ a ha).1
 split at e
 ·rename_i x p args pos;split at e
  ·rename_i hx;rw[aG]at hx;have hb:=lh h hx.1;have hr:x="range":=aB hx.2;subst hr;obtain⟨as',ha,e⟩:=aq e;cases args with
   |nil=>cases ha;cases e
   |cons a es=>
    obtain⟨a1,as1,h1,h2,rfl⟩:=fm ha;simp only[List.isEmpty_cons,eC,dj]at e;cases e;exact H_ hb.1 hb.2 (bQ hf hs ha).1 (cU (hs _ _ h1) es X.env) ((bQ hf hs h2).2 pos)
  ·skip
   split at e
   ·rename_i hx;rw[aG,aG]at hx;have hb:=lh h hx.1.1;have hr:x="zip":=aB hx.1.2;subst hr;cases tg with
    |Tuple elts kx tpos=>
     split at e
     ·rename_i a b;obtain⟨as',ha,e⟩:=aq e;cases e;obtain⟨a1,as1,h1,h2,rfl⟩:=fm ha;exact Iq hb.1 hb.2 (bQ hf hs ha).1 (cU (hs _ _ h1) [b] X.env) ((bQ hf hs h2).2 pos)
     ·cases e
    |_=>cases hx.2
   exact sq e
 ·rename_i x p a y b kp pos;split at e
  ·rename_i hx;rw[aG,aG,aG]at hx;have hb:=lh h hx.1.1.1;have hr:x="enumerate":=aB hx.1.1.2;have hy:y="start":=aB hx.2;subst hr;subst hy;cases tg with
   |Tuple elts kx tpos=>
    obtain⟨a1,h1,e⟩:=aq e;obtain⟨b1,h2,e⟩:=aq e;cases e;have z:aD F [a1,b1]=fun ro S=>(ae F a1 ro S).bind fun x S1=>(ae F b1 ro S1).bind fun y S2=>.ok [x,y] S2:=by
     funext ro S;rw[jK];cases ae F a1 ro S with
     |ok x S1=>
      simp only[ac.bind_ok];rw[jK];cases ae F b1 ro S1 with
      |ok y S2=>rfl
      |_=>rfl
     |_=>rfl
    rw[z];exact IE hb.1 hb.2 (hf _ _ h1).1 (hf _ _ h2).1 (cU (hs _ _ h1) [] X.env)
   |_=>cases hx.1.2
  ·cases e
 ·exact sq e
theorem AM{e:Expr}(h:∀x k p,e≠.Set x k p)(env:Env)(x:Value):foldedSetIterable e env x=pure x:=by
 cases e with
 |Set=>exact absurd rfl (h _ _ _)
 |_=>rfl
theorem AN:∀{l xs:List Str}{is:List Nat},lc l xs=some is->is.length=xs.length/\∀(i j:Nat) x,is[i]?=some j->xs[i]?=some x->l[j]?=some x
 |l,[],is,e=>by unfold lc at e;cases e;exact⟨rfl,fun i j x h=>by simp at h⟩
 |l,y::ys,is,e=>by
  unfold lc at e;obtain⟨i0,hi,e⟩:=aq e;obtain⟨js,hj,e⟩:=aq e;cases e;obtain⟨h1,h2⟩:=AN hj;refine⟨by simp[h1],fun i j x a b=>?_⟩;cases i with
  |zero=>simp at a b;subst a;subst b;exact pf hi
  |succ i=>exact h2 i j x (by simpa using a) (by simpa using b)
theorem Jx{sc:Scope}{x:Str}(h:x∈frees sc):(x,NameKind.free)∈sc.names:=by
 unfold frees at h;obtain⟨y,hy,e⟩:=wJ.mp h;split at e
 ·rename_i hk;cases e;have:=aB hk;obtain⟨a,b⟩:=y;simp only at this;subst this;exact hy
 ·cases e
theorem Jy(h:bf X T F){sc:Scope}{own:List Str}{out:List Nat}(e:jW T sc (own++frees sc)=true)(eo:lc T.N (frees sc)=some out):jS X (own++frees sc) own.length out sc:=by
 unfold jW at e;simp only[aG,gT,gW,gU]at e;obtain⟨⟨⟨⟨e1,e2⟩,e3⟩,e4⟩,e5⟩:=e;obtain⟨o1,o2⟩:=AN eo;have fr:∀y∈sc.names,y.2=.free->sc.names.lookup y.1=some .free/\(T.names.lookup y.1=some .cell\/T.names.lookup y.1=some .free):=fun y hy hk=>by
  rcases e5 y hy with z|z
  ·rw[hk]at z;cases z
  ·exact⟨aB z.1,z.2.elim (fun q=>.inl (aB q)) fun q=>.inr (aB q)⟩
 refine⟨aB e1,e2,by rw[en,o1],fun y hy hk=>?_,fun y hy hk=>?_,fun y hy hk=>(fr y hy hk).1,fun y hy hk=>?_,fun i j x hi hx=>?_⟩
 ·rcases e3 y hy with z|z
  ·rw[hk]at z;cases z
  ·exact aB z
 ·rcases e4 y hy with z|z
  ·rw[hk]at z;cases z
  ·exact aB z
 ·obtain⟨_,z⟩:=fr y hy hk;rcases z with z|z
  ·rcases h.look _ _ z with q|⟨q,_⟩
   ·exact .inl q
   ·cases q
  ·rcases h.look _ _ z with q|⟨_,q⟩
   ·exact .inr q
   ·exact .inl q
 ·rw[fP (by omega),Dw]at hx;have hm:=Jx (jm hx);exact⟨by rw[h.N];exact o2 i j x hi hx,(fr _ hm rfl).1⟩
theorem AO{sc:Scope}{env:Env}{x:Str}{k:NameKind}(h:sc.names.lookup x=some k):(relabel sc env).names.lookup x=some k\/(k=.free/\(relabel sc env).names.lookup x=some .cell):=by
 rw[uC,h];simp only[Option.map_some];split
 ·rename_i z;simp only[aG]at z;exact .inr ⟨aB z.1.1,rfl⟩
 ·exact .inl rfl
theorem Jz(h:bf X T F){sc:Scope}{N':List Str}(e:jW T sc N'=true)(C:Addr)(cl:List (Str×Addr))(s0:Shared)(H0:Hp)(ex:List Addr):bf (iX X N' C sc cl s0 H0 ex) (lf T sc N') F:=by
 unfold jW at e;simp only[aG,gT,gW,gU]at e;obtain⟨⟨⟨⟨e1,e2⟩,e3⟩,e4⟩,e5⟩:=e;exact {
     N:=rfl,nd:=e2,look:=fun x k hk=>AO hk,fnc:=fun x hk=>by
      show(sc.names.lookup x==some NameKind.cell)=true;rw[show sc.names.lookup x=some .cell from hk];rfl
     con:=h.con,tab:=h.tab,blt:=h.blt,fns:=h.fns,cls:=h.cls,own:=h.own,ats:=h.ats,met:=h.met,calm:=rfl,gd:=h.gd,un:=h.un,pass:=PassesOwn.never }
theorem JA{sc:Scope}{N':List Str}(e:jW T sc N'=true)(X':Cx)(hN:X'.N=N')(hs:X'.env.scope=relabel sc X.env)(hfn:∀x,sc.names.lookup x=some .cell->X'.fn x=true):i7 X' (lf T sc N'):=by
 unfold jW at e;simp only[aG,gT,gW,gU]at e;obtain⟨⟨⟨⟨e1,e2⟩,e3⟩,e4⟩,e5⟩:=e;exact⟨hN,fun x k hk=>by rw[hs];exact AO hk,fun x hk=>hfn x hk⟩
end
end Q
namespace Q
open PySem PySem.Spec PyProof.Rows L2 PySem.SeqAt
section
variable{F:Nat->List PV->aa->ac PV}
theorem mG:∀{n:Nat}{T:TE},dW (bo n T)
 |0,T,e,m,h,x,p=>nomatch (show(none:Option Ex)=some m from h)
 |n+1,T,e,m,h,x,p=>by rintro rfl;exact nomatch (show(none:Option Ex)=some m from h)
noncomputable def Shape(e:Expr):Prop:=(∀x k p,e≠.Set x k p)/\(∀a b c d,e≠.Slice a b c d)/\(∀a b c d,e≠.SetComp a b c d)/\(∀a b c d f,e≠.DictComp a b c d f)
theorem pi{n:Nat}{T:TE}{e:Expr}{m:Ex}(h:bo n T e=some m):Shape e:=by
 cases n with
 |zero=>exact nomatch (show(none:Option Ex)=some m from h)
 |succ n=>refine⟨?_,?_,?_,?_⟩<;>intros<;>rintro rfl<;>exact nomatch (show(none:Option Ex)=some m from h)
theorem AP{e:Expr}(h:∀a b c d,e≠.Slice a b c d):tV e:=by
 intro o i;cases e with
 |Slice=>exact absurd rfl (h _ _ _ _)
 |_=>rfl
variable{X:Cx}{T:TE}
theorem JB(h:bf X T F){x:Str}{b:Bi×Bool}(e:uJ x=some b):∃fv,bootBuiltins x=some fv/\((∃id,fv=.builtin id)\/∃t,fv=.type t)/\dR X fv (fun S ps=>aC S b.1 ps):=by
 unfold uJ at e;split at e
 ·rename_i hx;rw[aB hx];cases e;exact⟨_,rfl,.inr ⟨_,rfl⟩,GE⟩
 split at e
 ·rename_i hx;rw[aB hx];cases e;exact⟨_,rfl,.inr ⟨_,rfl⟩,HN h.calm⟩
 split at e
 ·rename_i hx;rw[aB hx];cases e;exact⟨_,rfl,.inl ⟨_,rfl⟩,HQ h.calm h.un⟩
 split at e
 ·rename_i hx;rw[aB hx];cases e;exact⟨_,rfl,.inl ⟨_,rfl⟩,GW h.calm⟩
 split at e
 ·rename_i hx;rw[aB hx];cases e;exact⟨_,rfl,.inl ⟨_,rfl⟩,HP h.calm⟩
 split at e
 ·rename_i hx;rw[aB hx];cases e;exact⟨_,rfl,.inl ⟨_,rfl⟩,HR h.gd h.un⟩
 cases e
theorem JC(h:bf X T F){x:Str}{b:Bi×Bool}(e:uK x=some b):∃fv,bootBuiltins x=some fv/\((∃id,fv=.builtin id)\/∃t,fv=.type t)/\dR X fv (fun S ps=>aC S b.1 ps):=by
 unfold uK at e;split at e
 ·rename_i hx;rw[aB hx];cases e;exact⟨_,rfl,.inl ⟨_,rfl⟩,GD⟩
 split at e
 ·rename_i hx;rw[aB hx];cases e;exact⟨_,rfl,.inl ⟨_,rfl⟩,GJ h.calm⟩
 split at e
 ·rename_i hx;rw[aB hx];cases e;exact⟨_,rfl,.inl ⟨_,rfl⟩,GK h.calm⟩
 split at e
 ·rename_i hx;rw[aB hx];cases e;exact⟨_,rfl,.inl ⟨_,rfl⟩,GL h.calm⟩
 split at e
 ·rename_i hx;rw[aB hx];cases e;exact⟨_,rfl,.inl ⟨_,rfl⟩,GH⟩
 exact JB h e
theorem JD(h:bf X T F){x:Str}{pos:Pos}{b:Bi×Bool}(e:uL T x pos=some b):∃fv,bootBuiltins x=some fv/\((∃id,fv=.builtin id)\/∃t,fv=.type t)/\dR X fv (fun S ps=>aC S b.1 ps):=by
 unfold uL at e;split at e
 ·rename_i hx;rw[aG]at hx;rw[aB hx.1];cases e;exact⟨_,rfl,.inr ⟨_,rfl⟩,GF⟩
 ·exact JC h e
theorem JE{y:Str}{t:Ty}(e:uI y=some t):bootBuiltins y=some (.type (ul t)):=by
 unfold uI at e;split at e
 ·rename_i hx;rw[aB hx];cases e;rfl
 split at e
 ·rename_i hx;rw[aB hx];cases e;rfl
 split at e
 ·rename_i hx;rw[aB hx];cases e;rfl
 split at e
 ·rename_i hx;rw[aB hx];cases e;rfl
 split at e
 ·rename_i hx;rw[aB hx];cases e;rfl
 cases e
theorem JF(h:bf X T F){f:Expr->Option Ex}(hf:cR X F f)(hs:dW f){x:Str}{p pos:Pos}{args:List Expr}{m:Ex}(e:uN T f x args pos=some m):DE X (.Call (.Name x p) args [] pos) (ae F m):=by
 unfold uN at e;split at e
 ·cases e
 rename_i hx;simp only[gU,lR,Dx]at hx;have hn:x≠"__name__":=fun z=>by rw[z]at hx;exact absurd hx.2 (by decide)
 split at e
 ·rename_i hg;have hg:=h.gl (aB hg);split at e
  ·rename_i i hi;obtain⟨as,ha,e⟩:=aq e;cases e;obtain⟨fa,fd,prm,np,k,hm,G,hr,hb,hk,hnp⟩:=h.fns x i hi;have z:ae F (.call i as)=fun ro S=>(aD F as ro S).bind fun ps S1=>F i ps S1:=rfl;rw[z];cases args with
   |nil=>
    cases ha;have z:aD F []=fun ro S=>.ok [] S:=rfl;rw[z];exact Hd G hr hb hnp hg hm hk hx.1
   |cons a es=>
    obtain⟨a1,as1,h1,h2,rfl⟩:=fm ha;exact Hc G hr hb hnp hg hm hk (bQ hf hs ha).1 hx.1 (cU (hs _ _ h1) es X.env) ((bQ hf hs h2).2 pos)
  ·rename_i i hi;split at e
   ·cases e
   ·rename_i hne;obtain⟨as,ha,e⟩:=aq e;cases e;obtain⟨C,fa,fd,prm,np,k,hm,hC,M,G,hr,hb,hnp⟩:=h.own x i hi;have z:ae F (.mk x i as)=fun ro S=>(aD F as ro S).bind fun ps S1=>kY S1.length (F i (.ref S1.length::ps) (S1++[.ins x []])):=rfl;rw[z];cases args with
    |nil=>exact absurd rfl hne
    |cons a es=>
     obtain⟨a1,as1,h1,h2,rfl⟩:=fm ha;exact HG M hC G hr hb hnp hg hm (bQ hf hs ha).1 hx.1 (cU (hs _ _ h1) es X.env) ((bQ hf hs h2).2 pos)
  ·rename_i hi;have hm:=h.blt x hi;split at e
   ·rename_i hxi;have hxi:x="isinstance":=aB hxi;subst hxi;split at e
    ·rename_i a y py;split at e
     ·rename_i hy;simp only[aG,xv,ne_eq]at hy;obtain⟨⟨hy1,hy2⟩,hy3⟩:=hy;obtain⟨hgT,hmT⟩:=lh h hy1;obtain⟨t,ht,e⟩:=aq e;obtain⟨a1,ha,e⟩:=aq e;cases e;have z:ae F (.bi (.isinst t) [a1])=(fun ro S=>((ae F a1 ro S).bind fun x S1=>.ok [x] S1).bind fun ps S1=>aC S1 (.isinst t) ps):=by
       funext ro S;rw[kZ,vm];dsimp only;cases ae F a1 ro S<;>rfl
      rw[z];exact GN hg hm rfl hgT hmT (JE ht) (hf _ _ ha).1 hn hx.1 hy3 (ef.mpr hy2) (cU (hs _ _ ha) _ X.env)
     ·cases e
    ·cases e
   ·split at e
    ·cases e
    ·rename_i hne;obtain⟨b,hb,e⟩:=aq e;obtain⟨as,ha,e⟩:=aq e;cases e;have z:ae F (.bi b.1 as)=fun ro S=>(aD F as ro S).bind fun ps S1=>aC S1 b.1 ps:=rfl;rw[z];obtain⟨fv,hv,hk,hc⟩:=JD h hb;cases args with
     |nil=>exact absurd rfl hne
     |cons a es=>
      obtain⟨a1,as1,h1,h2,rfl⟩:=fm ha;rcases hk with ⟨id,rfl⟩|⟨t,rfl⟩
      ·exact GA hc hg hm hv (bQ hf hs ha).1 hn hx.1 (cU (hs _ _ h1) es X.env) ((bQ hf hs h2).2 pos)
      ·exact GB hc hg hm hv (bQ hf hs ha).1 hn hx.1 (cU (hs _ _ h1) es X.env) ((bQ hf hs h2).2 pos)
  ·cases e
 ·cases e
theorem AQ{o:Expr}{m:Str}{apos pos:Pos}{args:List Expr}{env:Env}(hbase:attributeBase o m env (eval o env)=eval o env)(hst:(backTo pos (starEach args env)).any (·.1)=false)(hlen:args.length<30)(hline:(apos.endLine==pos.line)=true) :
  ∃pl,eval (.Call (.Attribute o m apos) args [] pos) env=(do
   let ov ←eval o env
   standAt apos.atName
   let (f,first) ←holding [ov] (getMethod ov m pl)
   callWith pos f first (backTo pos (starEach args env)) (backToKw pos (keywordEach [] env))):=by
 have hform:methodCallForm (args.length+([]:List Keyword).length) (backTo pos (starEach args env)) (backToKw pos (keywordEach [] env))=true:=by
  have h1:(backTo pos (starEach args env)).all (fun x=>!x.1)=true:=by
   rw[gW];intro x hx;have:=rQ.mp hst x hx
   simpa using this
  unfold methodCallForm;rw[h1];simp[keywordEach,backToKw,hlen]
 have hpos:methodCallPos true o env apos pos=pure pos:=by unfold methodCallPos;simp[hline]
 refine⟨(do return (←importBound o env).getD true),?_⟩
 rw[arm_eval_Call,hbase];unfold methodCall;rw[hform,hpos];rfl
theorem JG{o:Expr}(h:uO o=true):∃x p,o=.Name x p:=by
 cases o with
 |Name x p=>exact⟨x,p,rfl⟩
 |_=>cases h
theorem pj{o:Expr}(h:mE o=true)(f:Str)(env:Env)(w:Sem Value):attributeBase o f env w=w:=by
 cases o with
 |Name x p=>rfl
 |Attribute o' g p=>rfl
 |ListComp a b c d=>rfl
 |Subscript a b c=>rfl
 |_=>cases h
theorem JH(hu:X.A.units+64<cLine){f:Expr->Option Ex}(hf:cR X F f)(hs:dW f){o:Expr}{name:Str}{args:List Expr}{apos pos:Pos}{m:Ex}(e:uP f o name args apos pos=some m):DE X (.Call (.Attribute o name apos) args [] pos) (ae F m):=by
 unfold uP at e;split at e
 ·rename_i b;split at e
  ·rename_i hl;rw[aG]at hl;have hbase:=pj hl.1;unfold AB at e;split at e
   ·rename_i hx;rw[show name="append" from aB hx];obtain⟨a,ha,e⟩:=aq e;obtain⟨b',hb,e⟩:=aq e;cases e;have z:ae F (.app a b')=fun ro S=>((ae F a ro S).bind fun x S1=>cj S1 x).bind fun x S1=>(ae F b' ro S1).bind fun y S2=>gw S2 x y:=rfl;rw[z];exact z6 Dn PySem.F.slot_list_append rfl GZ (hf _ _ ha).1 (hf _ _ hb).1 (hbase _ _ _) hl.2 (cU (hs _ _ hb) [] X.env)
   split at e
   ·rename_i hx;rw[show name="extend" from aB hx];obtain⟨a,ha,e⟩:=aq e;obtain⟨b',hb,e⟩:=aq e;cases e;have z:ae F (.ext a b')=fun ro S=>((ae F a ro S).bind fun x S1=>cj S1 x).bind fun x S1=>(ae F b' ro S1).bind fun y S2=>kX S2 x y:=rfl;rw[z];exact z6 Dn PySem.F.slot_list_extend rfl G0 (hf _ _ ha).1 (hf _ _ hb).1 (hbase _ _ _) hl.2 (cU (hs _ _ hb) [] X.env)
   cases e
  ·cases e
 ·rename_i b d;split at e
  ·rename_i hl;rw[aG,aG]at hl;rw[show name="pop" from aB hl.2];obtain⟨a,ha,e⟩:=aq e;obtain⟨b',hb,e⟩:=aq e;obtain⟨c',hc,e⟩:=aq e;cases e;have z:ae F (.pop2 a b' c')=fun ro S=>((ae F a ro S).bind fun x S1=>e8 S1 x).bind fun x S1=>(ae F b' ro S1).bind fun y S2=>(ae F c' ro S2).bind fun z S3=>kT S3 x y z:=rfl;rw[z];exact HU (hf _ _ ha).1 (hf _ _ hb).1 (hf _ _ hc).1 (pj hl.1.1 _ _ _) hl.1.2 (by rw[cU (hs _ _ hb),cU (hs _ _ hc)];rfl)
  split at e
  ·rename_i hl;rw[aG,aG]at hl;rw[show name="get" from aB hl.2];obtain⟨a,ha,e⟩:=aq e;obtain⟨b',hb,e⟩:=aq e;obtain⟨c',hc,e⟩:=aq e;cases e;have z:ae F (.get2 a b' c')=fun ro S=>((ae F a ro S).bind fun x S1=>e8 S1 x).bind fun x S1=>(ae F b' ro S1).bind fun y S2=>(ae F c' ro S2).bind fun z S3=>kU S3 x y z:=rfl;rw[z];exact G9 hu (hf _ _ ha).1 (hf _ _ hb).1 (hf _ _ hc).1 (pj hl.1.1 _ _ _) hl.1.2 (by rw[cU (hs _ _ hb),cU (hs _ _ hc)];rfl)
  cases e
 ·skip
  split at e
  ·rename_i hl;rw[aG,aG]at hl;rw[show name="pop" from aB hl.2];obtain⟨a,ha,e⟩:=aq e;cases e;have z:ae F (.pop0 a)=fun ro S=>((ae F a ro S).bind fun x S1=>cj S1 x).bind fun x S1=>jJ S1 x:=rfl;rw[z];exact G8 (hf _ _ ha).1 (pj hl.1.1 _ _ _) hl.1.2
  cases e
 ·cases e
theorem JI{o:Expr}(h:AC o=true)(f:Str)(env:Env):attributeBase o f env (eval o env)=eval o env:=by
 cases o with
 |Name x p=>rfl
 |Subscript a b c=>rfl
 |_=>cases h
theorem JJ(h:bf X T F){f:Expr->Option Ex}(hf:cR X F f)(hs:dW f){o:Expr}{name:Str}{args:List Expr}{apos pos:Pos}{m:Ex}(e:uQ T f o name args apos pos=some m):DE X (.Call (.Attribute o name apos) args [] pos) (ae F m):=by
 unfold uQ at e;split at e
 ·rename_i i hi;split at e
  ·rename_i hn;obtain⟨hn,hline,hlen⟩:=hn;obtain⟨a,ha,e⟩:=aq e;obtain⟨as,has,e⟩:=aq e;cases e;obtain⟨pl,hpl⟩:=AQ (o:=o) (m:=name) (args:=args) (env:=X.env) (JI hn _ _) ((bQ hf hs has).2 pos) hlen hline;obtain⟨fa,fd,prm,np,k,hM,G,hr,hb,hk,hnp⟩:=h.met name i hi;have z:ae F (.mth T.own name i a as)=fun ro S=>((ae F a ro S).bind fun x S1=>bJ S1 T.own name x).bind fun x S1=>(aD F as ro S1).bind fun ps S2=>F i (x::ps) S2:=rfl;rw[z];cases args with
   |nil=>
    cases has;have z:aD F []=fun ro S=>.ok [] S:=rfl;rw[z];exact HE G hr hb hnp hM hk (hf _ _ ha).1 hpl
   |cons e1 es=>
    obtain⟨a1,as1,h1,h2,rfl⟩:=fm has;exact HD G hr hb hnp hM hk (hf _ _ ha).1 (bQ hf hs has).1 (cU (hs _ _ h1) es X.env) ((bQ hf hs h2).2 pos) hpl
  ·cases e
 ·exact JH h.un hf hs e
theorem JK(h:bf X T F){f:Expr->Option Ex}(hf:cR X F f){o:Expr}{name:Str}{pos:Pos}{m:Ex}(e:uR T f o name=some m):DE X (.Attribute o name pos) (ae F m):=by
 unfold uR at e;split at e
 ·rename_i hc;rw[aG]at hc;obtain⟨a,ha,e⟩:=aq e;cases e;have z:ae F (.fld T.own a name)=fun ro S=>(ae F a ro S).bind fun x S1=>bN S1 T.own x name:=rfl;rw[z];exact Hy (h.ats name (by simpa using hc.2)) (hf _ _ ha).1 (pj hc.1 _ _ _)
 ·cases e
theorem AR{f:Expr->Option Ex}(hf:cR X F f):∀{keys:List (Option Expr)}{vals:List Expr}{ks:List ao}{es:List Ex},qL keys=some ks->cE f vals=some es->keys.length=vals.length->DD X keys vals ks (aD F es)/\ks.length=keys.length/\keys.all (·.isSome)=true
 |[],[],ks,es,hk,he,_=>by
  cases hk;cases he;have z:aD F []=fun ro S=>.ok [] S:=rfl;rw[z];exact⟨Hu,rfl,rfl⟩
 |[],_::_,_,_,_,_,hl=>by simp at hl
 |_::_,[],_,_,_,_,hl=>by simp at hl
 |none::_,_::_,_,_,hk,_,_=>by cases hk
 |some k::keys,v::vals,ks,es,hk,he,hl=>by
  unfold qL at hk;obtain⟨key,h1,hk⟩:=aq hk;obtain⟨ks',h2,hk⟩:=aq hk;cases hk;obtain⟨a1,as1,g1,g2,rfl⟩:=fm he;obtain⟨d1,d2,d3⟩:=AR hf h2 g2 (by simpa using hl);have z:aD F (a1::as1)=fun ro S=>(ae F a1 ro S).bind fun p S1=>(aD F as1 ro S1).bind fun ps S2=>.ok (p::ps) S2:=rfl;rw[z];refine⟨Hv ?_ (hf _ _ g1).1 d1,by simp[d2],by simpa using d3⟩;unfold AD at h1;split at h1
  ·split at h1
   ·cases h1;exact yL
   ·cases h1;exact yM
   ·cases h1
  ·cases h1
theorem JL{f:Expr->Option Ex}(hf:cR X F f){keys:List (Option Expr)}{vals:List Expr}{pos:Pos}{m:Ex}(e:uS f keys vals=some m):DE X (.Dict keys vals pos) (ae F m):=by
 unfold uS at e;split at e
 ·rename_i hc;obtain⟨ks,hk,e⟩:=aq e;obtain⟨es,he,e⟩:=aq e;cases e;obtain⟨d1,d2,d3⟩:=AR (X:=X) (F:=F) hf hk he hc.1;have z:ae F (.dnew ks es)=fun ro S=>(aD F es ro (S++[.dct []])).bind fun ps S1=>fb S.length ks ps S1:=rfl;rw[z];cases keys with
  |nil=>
   have hv:vals=[]:=by simpa using hc.1.symm
   subst hv;cases hk;cases he;have z:aD F []=fun ro S=>.ok [] S:=rfl;rw[z];exact Hw
  |cons k keys=>exact Hx d1 d3 hc.1 (by simp) hc.2 d2
 ·cases e
end
end Q
namespace Q
open PySem PySem.Spec PyProof.Rows L2 PySem.SeqAt
section
variable{F:Nat->List PV->aa->ac PV}
theorem AS{X:Cx}{f:Expr->Option Ex}(hf:cR X F f){o:Option Expr}{m:Ex}(h:uT f o=some m):DO X o (ae F m):=by
 cases o with
 |none=>
  cases h;have z:ae F (.cst .non)=fun ro S=>.ok .non S:=rfl;rw[z];exact ui
 |some e=>exact Gx (hf e m h).1
theorem qR{p:PV}:ae F (.cst p)=fun ro S=>.ok p S:=rfl
theorem AT{X:Cx}{T:TE}(h:bf X T F){f:Expr->Option Ex}(hf:cR X F f)(hs:dW f)(hset:∀e m,f e=some m->∀x k p,e≠.Set x k p){tg iter elt:Expr}{ifs:List Expr}{sc:Scope}{out:List Nat}{t:Tg}{k:dJ}{as:List Ex}{g:Ro->aa->ac (Option PV)}
  (e:jW T sc (dD tg++frees sc)=true) (eo:lc T.N (frees sc)=some out) (et:pd (lf T sc (dD tg++frees sc)) tg=some t) (ei:lg T f tg iter=some (k,as))
  (hg:∀X',bf X' (lf T sc (dD tg++frees sc)) F->DG X' ifs elt g) :
  (DI X tg iter k (aD F as))/\(jS X (dD tg++frees sc) (dD tg).length out sc)/\(∀X',X'.N=(dD tg++frees sc)->X'.env.scope=relabel sc X.env->(∀x,sc.names.lookup x=some .cell->X'.fn x=true)->fi X' tg t) /\
   (∀cl C s0 H0 ex,DG (iX X (dD tg++frees sc) C sc cl s0 H0 ex) ifs elt g)/\∀x,foldedSetIterable iter X.env x=pure x:=
 ⟨AL h hf hs ei,Jy h e eo,fun X' hN hsc hfn=>AK (JA (X:=X) e X' hN hsc hfn) et,fun cl C s0 H0 ex=>hg _ (Jz h e C cl s0 H0 ex),AM (by
  unfold lg at ei;split at ei
  ·intro x k p;rintro⟨⟩
  ·intro x k p;rintro⟨⟩
  ·obtain⟨a,ha,_⟩:=aq ei;exact hset _ _ ha) X.env⟩
theorem JM{a:Ex}{t:Tg}{k:dJ}{as:List Ex}{own:Nat}{out:List Nat}:ae F (.comp a t k as own out)=gz (aD F as) k t (o7 (ae F a)) own out:=by
 funext ro S;rw[md];unfold gz;congr 1;funext ps S1;cases a8 S1 k ps with
 |none=>rfl
 |some it=>dsimp only;rw[Ar]
theorem JN{a c:Ex}{t:Tg}{k:dJ}{as:List Ex}{own:Nat}{out:List Nat}:ae F (.compIf a t k as c own out)=gz (aD F as) k t (o8 (ae F c) (ae F a)) own out:=by
 funext ro S;rw[mf];unfold gz;congr 1;funext ps S1;cases a8 S1 k ps with
 |none=>rfl
 |some it=>dsimp only;rw[uG]
theorem dN{X:Cx}{e:Expr}{f:Ro->aa->ac PV}(h1:∀x p,e≠.UnaryOp .Not x p)(h2:∀o v p,e≠.BoolOp o v p)(h3:∀a b c p,e≠.IfExp a b c p)(h4:∀a b c p,e≠.Compare a b c p)(h:DE X e f):DE X e f/\DT X e (bg f):=
 ⟨h,FW h fun w=>Ju h1 h2 h3 h4 X.env w⟩
theorem JO{X:Cx}{c:Const}{k:Nat}{p:Pos}{m:Ex}(q:AE c=some m):DE X (.Constant c k p) (ae F m):=by
 cases c with
 |int i=>cases q;rw[qR];exact zy
 |bool b=>cases q;rw[qR];exact zz
 |none=>cases q;rw[qR];exact FS
 |str x=>cases q;rw[qR];exact FT
 |_=>cases q
theorem none_of{e:Expr}(h:isNone e=true):∃k p,e=.Constant .none k p:=by
 cases e with
 |Constant c k p=>cases c with
  |none=>exact⟨k,p,rfl⟩
  |_=>cases h
 |_=>cases h
theorem JP{e:Expr}(h:uU e=true):∃k p p',e=.UnaryOp .USub (.Constant (.int 1) k p) p':=by
 unfold uU at h;split at h
 ·split at h
  ·rename_i i k p;exact⟨k,p,_,by rw[show i=1 from aB h]⟩
  ·cases h
 ·cases h
theorem JQ{e:Expr}(h:AF e=true):∃k p,e=.Constant (.bool true) k p:=by
 cases e with
 |Constant c k p=>cases c with
  |bool b=>cases b with
   |true=>exact⟨k,p,rfl⟩
   |false=>cases h
  |_=>cases h
 |_=>cases h
section
variable{X:Cx}{T:TE}{f:Expr->Option Ex}
theorem JR(h:bf X T F)(hf:cR X F f)(hs:dW f){fn:Expr}{args:List Expr}{kws:List Keyword}{pos:Pos}{m:Ex}(q:uY T f fn args kws=some m):DE X (.Call fn args kws pos) (ae F m):=by
 unfold uY at q;split at q
 ·rename_i x p a y b kpos;split at q
  ·rename_i hc;simp only[aG]at hc;obtain⟨⟨⟨hb,hx⟩,hy⟩,ht⟩:=hc;obtain⟨a',ha,q⟩:=aq q;cases q;rw[show x="sorted" from aB hx]at hb ⊢;rw[show y="reverse" from aB hy];obtain⟨k,cp,rfl⟩:=JQ ht;obtain⟨hg,hm⟩:=lh h hb;have z:ae F (.bi .sortedR [a'])=fun ro S=>((ae F a' ro S).bind fun x S1=>(ac.ok ([]:List PV) S1).bind fun ps S2=>.ok (x::ps) S2).bind fun ps S1=>aC S1 .sortedR ps:=by
    funext ro S;rw[kZ,vm]<;>rfl
   rw[z];exact IL hg hm (hf _ _ ha).1 (cU (hs _ _ ha) [] X.env)
  ·cases q
 ·cases q
theorem JS(h:bf X T F)(hf:cR X F f)(hsh:∀e m,f e=some m->Shape e){l:Expr}{ops:List CmpOp}{rs:List Expr}{p:Pos}{m:Ex}(q:uV f l ops rs=some m):DE X (.Compare l ops rs p) (ae F m)/\DT X (.Compare l ops rs p) (bg (ae F m)):=by
 unfold uV at q;split at q
 ·rename_i op r;split at q
  ·rename_i ho;rw[show op=.Is from aB ho];split at q
   ·rename_i hr;obtain⟨k,p',rfl⟩:=none_of hr;obtain⟨a,ha,q⟩:=aq q;cases q;have z:ae F (.isn a)=fun ro S=>(ae F a ro S).bind fun x S1=>.ok (.bl (fc x)) S1:=rfl;rw[z];exact⟨Gp (hf _ _ ha).1,Gr (hf _ _ ha).1⟩
   ·cases q
  ·split at q
   ·rename_i ho;rw[show op=.IsNot from aB ho];split at q
    ·rename_i hr;obtain⟨k,p',rfl⟩:=none_of hr;obtain⟨a,ha,q⟩:=aq q;cases q;have z:ae F (.isnn a)=fun ro S=>(ae F a ro S).bind fun x S1=>.ok (.bl (!fc x)) S1:=rfl;rw[z];exact⟨Gq (hf _ _ ha).1,Gs (hf _ _ ha).1⟩
    ·cases q
   ·obtain⟨o,ho,q⟩:=aq q;obtain⟨a,ha,q⟩:=aq q;obtain⟨b,hb,q⟩:=aq q;cases q;have z:ae F (.cmp o a b)=fun ro S=>(ae F a ro S).bind fun x S1=>(ae F b ro S1).bind fun y S2=>aK S2 o x y:=rfl;rw[z];exact⟨FV (hf _ _ ha).1 (hf _ _ hb).1 (AI h.un ho) (AJ (hsh _ _ hb).1),Go (hf _ _ ha).1 (hf _ _ hb).1 (AI h.un ho) (AJ (hsh _ _ hb).1)⟩
 ·cases q
theorem JT(hu:X.A.units+64<cLine)(hf:cR X F f)(hsh:∀e m,f e=some m->Shape e){v i:Expr}{p:Pos}{m:Ex}(q:uW f v i=some m):DE X (.Subscript v i p) (ae F m):=by
 unfold uW at q;split at q
 ·split at q
  ·obtain⟨a,ha,q⟩:=aq q;obtain⟨l,hl,q⟩:=aq q;obtain⟨u,hu,q⟩:=aq q;cases q;have z:ae F (.slc a l u)=fun ro S=>(ae F a ro S).bind fun x S1=>(ae F l ro S1).bind fun l S2=>(ae F u ro S2).bind fun h S3=>hW S3 x l h:=rfl;rw[z];exact Gz (hf _ _ ha).1 (AS hf hl) (AS hf hu)
  ·skip
   split at q
   ·rename_i h1;rw[aG,aG,Om,Om]at h1;obtain⟨h1,rfl,rfl⟩:=h1;obtain⟨k,p',p'',rfl⟩:=JP h1;obtain⟨a,ha,q⟩:=aq q;cases q;have z:ae F (.rev a)=fun ro S=>(ae F a ro S).bind fun x S1=>l_ S1 x:=rfl;rw[z];exact IJ (hf _ _ ha).1 (zF zy)
   cases q
 ·obtain⟨a,ha,q⟩:=aq q;obtain⟨b,hb,q⟩:=aq q;cases q;have z:ae F (.idx a b)=fun ro S=>(ae F a ro S).bind fun x S1=>(ae F b ro S1).bind fun y S2=>aU S2 x y:=rfl;rw[z];exact Gv hu (hf _ _ ha).1 (hf _ _ hb).1 (AP (hsh _ _ hb).2.1)
theorem JU(h:bf X T F)(hf:cR X F f)(hsh:∀e m,f e=some m->Shape e){v i:Expr}{p:Pos}{m:Ex}(q:uX T f v i=some m):DE X (.Subscript v i p) (ae F m):=by
 unfold uX at q;split at q
 ·rename_i x px;split at q
  ·rename_i hc;rw[aG,kn]at hc;split at q
   ·rename_i D hD;obtain⟨k,hk,q⟩:=aq q;cases q;obtain⟨a,hm,ht⟩:=h.tab x D hD;have z:ae F (.tabx D k)=fun ro S=>(ae F k ro S).bind fun k S1=>h7 D S1 k:=rfl;rw[z];exact HX (h.gl (aB hc.1)) hm ht hc.2 (hf _ _ hk).1 (AP (hsh _ _ hk).2.1)
   ·cases q
  ·cases q
 ·cases q
theorem JV(h:bf X T F)(hf:cR X F f)(hs:dW f){x:Str}{p:Pos}{args:List Expr}{pos:Pos}{m:Ex}(q:uZ T f x args=some m):DE X (.Call (.Name x p) args [] pos) (ae F m):=by
 unfold uZ at q;split at q
 ·rename_i fn a kws pos2;split at q
  ·rename_i y p2;split at q
   ·rename_i hc;simp only[aG]at hc;obtain⟨⟨⟨hx,hb⟩,hy⟩,hb2⟩:=hc;obtain⟨m',hm',q⟩:=aq q;cases q;rw[show x="len" from aB hx]at hb ⊢;rw[show y="set" from aB hy]at hb2 ⊢;obtain⟨hg,hm⟩:=lh h hb;obtain⟨hg2,hm2⟩:=lh h hb2;have z:ae F (.lset m')=fun ro S=>(ae F m' ro S).bind fun x S1=>kW S1 x:=rfl;rw[z];exact Ha h.calm (hf _ _ hm').1 hg hm hg2 hm2 (cU (hs _ _ hm') [] X.env)
   ·cases q
  ·cases q
 ·cases q
theorem JW(h:bf X T F)(hf:cR X F f)(hs:dW f){x:Str}{p:Pos}{args:List Expr}{pos:Pos}{m:Ex}(q:u_ T f x args pos=some m):DE X (.Call (.Name x p) args [] pos) (ae F m):=by
 unfold u_ at q;split at q
 ·rename_i m' hq;cases q;exact JV h hf hs hq
 exact JF h hf hs q
theorem JX(h:bf X T F)(hf:cR X F f)(hs:dW f){fn:Expr}{args:List Expr}{kws:List Keyword}{pos:Pos}{m:Ex}(q:va T f fn args kws pos=some m):DE X (.Call fn args kws pos) (ae F m):=by
 unfold va at q;split at q
 ·split at q
  ·skip
   ·exact JW h hf hs q
  ·exact JJ h hf hs q
  ·cases q
 ·exact JR h hf hs q
theorem AU(h:bf X T F){g:TE->Expr->Option Ex}(hg:∀{X:Cx}{T:TE},bf X T F->cR X F (g T))(hs:∀T,dW (g T))(hsh:∀T e m,g T e=some m->Shape e){elt:Expr}{gens:List Comprehension}{sc:Scope}{m:Ex}(q:qM T g elt gens sc=some m) :
  ∃tg iter ifs t k as out gf,gens=[⟨tg,iter,ifs,0⟩]/\ae F m=gz (aD F as) k t gf (dD tg).length out/\(DI X tg iter k (aD F as))/\(jS X (dD tg++frees sc) (dD tg).length out sc)/\(∀X',X'.N=(dD tg++frees sc)->X'.env.scope=relabel sc X.env->(∀x,sc.names.lookup x=some .cell->X'.fn x=true)->fi X' tg t) /\
   (∀cl C s0 H0 ex,DG (iX X (dD tg++frees sc) C sc cl s0 H0 ex) ifs elt gf)/\∀x,foldedSetIterable iter X.env x=pure x:=by
 unfold qM at q;split at q
 ·rename_i tg iter ifs as;split at q
  ·rename_i hc;obtain⟨rfl,hsc⟩:=hc;obtain⟨out,ho,q⟩:=aq q;obtain⟨t,ht,q⟩:=aq q;obtain⟨⟨k,as⟩,hi,q⟩:=aq q;obtain⟨a,ha,q⟩:=aq q;split at q
   ·cases q;exact⟨tg,iter,[],t,k,as,out,_,rfl,JM,AT h (hg h) (hs T) (fun e m z=>(hsh _ _ _ z).1) hsc ho ht hi (fun X' h'=>IS (hg h' _ _ ha).1)⟩
   ·obtain⟨c',hc,q⟩:=aq q;cases q;exact⟨tg,iter,[_],t,k,as,out,_,rfl,JN,AT h (hg h) (hs T) (fun e m z=>(hsh _ _ _ z).1) hsc ho ht hi (fun X' h'=>IT (hg h' _ _ hc).2 (hg h' _ _ ha).1)⟩
   ·cases q
  ·cases q
 ·cases q
theorem JY(h:bf X T F){g:TE->Expr->Option Ex}(hg:∀{X:Cx}{T:TE},bf X T F->cR X F (g T))(hs:∀T,dW (g T))(hsh:∀T e m,g T e=some m->Shape e){e:Expr}{m:Ex}(q:qN T g e=some m):DE X e (ae F m)/\DT X e (bg (ae F m)):=by
 have hf:=hg h;unfold qN at q;split at q
 ·exact dN (by simp) (by simp) (by simp) (by simp) (JO q)
 ·exact dN (by simp) (by simp) (by simp) (by simp) (Jv h q)
 ·obtain⟨a,ha,q⟩:=aq q;obtain⟨b,hb,q⟩:=aq q;obtain⟨o,ho,q⟩:=aq q;cases q;refine dN (by simp) (by simp) (by simp) (by simp) ?_
  ·have z:ae F (.bin o a b)=fun ro S=>(ae F a ro S).bind fun x S1=>(ae F b ro S1).bind fun y S2=>aN S2 o x y:=rfl;rw[z];exact FU (hf _ _ ha).1 (hf _ _ hb).1 (Jw ho)
 ·rename_i op x p;obtain⟨a,ha,q⟩:=aq q;cases op with
  |Not=>
   cases q;have z:ae F (.not a)=fun ro S=>(ae F a ro S).bind fun x S1=>match aJ S1 x with|some b=>.ok (.bl (!b)) S1|none=>.bad:=rfl
   rw[z];exact⟨FX (hf _ _ ha).1,FY (hf _ _ ha).2⟩
  |USub=>
   cases q;have z:ae F (.neg a)=fun ro S=>(ae F a ro S).bind fun x S1=>match x with|.int i=>.ok (.int (-i)) S1|_=>.bad:=rfl
   rw[z];exact dN (by simp) (by simp) (by simp) (by simp) (zF (hf _ _ ha).1)
  |_=>cases q
 ·rename_i op vs p;cases op with
  |And=>exact⟨(vj hf q).1,(vj hf q).2.dt⟩
  |Or=>exact⟨(vk hf q).1,(vk hf q).2.dt⟩
 ·exact JS h hf (hsh T) q
 ·obtain⟨c,hc,q⟩:=aq q;obtain⟨a,ha,q⟩:=aq q;obtain⟨b,hb,q⟩:=aq q;cases q;have z:ae F (.ife c a b)=fun ro S=>(ae F c ro S).bind fun x S1=>match aJ S1 x with|some true=>ae F a ro S1|some false=>ae F b ro S1|none=>.bad:=rfl
  rw[z];exact⟨F7 (hf _ _ hc).2 (hf _ _ ha).1 (hf _ _ hb).1,Gu (hf _ _ hc).2 (hf _ _ ha).2 (hf _ _ hb).2⟩
 ·obtain⟨as,ha,q⟩:=aq q;cases q;have z:ae F (.tup as)=fun ro S=>(aD F as ro S).bind fun ps S1=>if ps.length<=aj then .ok (.tup ps) S1 else .bad:=rfl
  rw[z];exact dN (by simp) (by simp) (by simp) (by simp) (zH (bQ hf (hs T) ha).1)
 ·obtain⟨as,ha,q⟩:=aq q;cases q;refine dN (by simp) (by simp) (by simp) (by simp) ?_;split
  ·have z:ae F (.newl as)=fun ro S=>(aD F as ro S).bind fun ps S1=>if ps.length<=aj then .ok (.ref S1.length) (S1++[.lst ps]) else .bad:=rfl
   rw[z];exact Ga (bQ hf (hs T) ha).1
  ·have z:ae F (.lst as)=fun ro S=>(aD F as ro S).bind fun ps S1=>if ps.length<=aj then .ok (.lst ps) S1 else .bad:=rfl
   rw[z];exact F_ (bQ hf (hs T) ha).1
 ·refine dN (by simp) (by simp) (by simp) (by simp) ?_;split at q
  ·rename_i m' hq;cases q;exact JU h hf (hsh T) hq
  ·exact JT h.un hf (hsh T) q
 ·exact dN (by simp) (by simp) (by simp) (by simp) (JX h hf (hs T) q)
 ·
  obtain⟨tg,iter,ifs,t,k,as,out,gf,rfl,z,c1,c2,c3,c4,c5⟩:=AU h hg hs hsh q;rw[z];exact dN (by simp) (by simp) (by simp) (by simp) (IY h.calm c1 c2 c3 c4 c5)
 ·exact dN (by simp) (by simp) (by simp) (by simp) (JK h hf q)
 ·exact dN (by simp) (by simp) (by simp) (by simp) (JL hf q)
 ·cases q
end
theorem fY:∀(n:Nat){X:Cx}{T:TE},bf X T F->cR X F (bo n T)
 |0,X,T,h,e,m,q=>nomatch (show(none:Option Ex)=some m from q)
 |n+1,X,T,h,e,m,q=>JY h (fun {X T} h'=>fY n h') (fun T=>mG) (fun T e m z=>pi z) (show qN T (bo n) e=some m from q)
end
end Q
namespace Q
open PySem PySem.Spec PyProof.Rows L2 PySem.SeqAt
section
variable{F:Nat->List PV->aa->ac PV}
theorem qS{e:Expr}(h:qO e=false)(t:Option Expr)(l:Nat)(env:Env):swapsWith e t l env=pure false:=by
 cases e with
 |ListComp=>cases h
 |SetComp=>cases h
 |DictComp=>cases h
 |_=>rfl
theorem JZ{elt:Expr}{gs:List Comprehension}{sc:Scope}{p:Pos}{x:Str}{px:Pos}{l:Nat}{env:Env}:swapsWith (.ListComp elt gs sc p) (some (.Name x px)) l env=pure true\/swapsWith (.ListComp elt gs sc p) (some (.Name x px)) l env=pure false:=by
 have z:swapsWith (.ListComp elt gs sc p) (some (.Name x px)) l env=pure (env.blockKind==.function&&env.kindOf x==some .local&&px.line==p.line&&!(sc.names.any fun(n,k)=>n==x&&(k==.local||k==.cell))):=rfl;rw[z];cases (env.blockKind==.function&&env.kindOf x==some .local&&px.line==p.line&&!(sc.names.any fun(n,k)=>n==x&&(k==.local||k==.cell)))
 ·exact .inr rfl
 ·exact .inl rfl
theorem J0{ts:List Expr}{k:Nat}{p:Pos}{v:Expr}{env:Env}(h:∀a b c,v≠.Tuple a b c):swappedStores [.Tuple ts k p] v env=pure none:=by
 cases v with
 |Tuple=>exact absurd rfl (h _ _ _)
 |_=>rfl
theorem J1{X:Cx}{T:TE}{n:Nat}(h:bf X T F){x:Str}{px pos:Pos}{v:Expr}{i:Nat}{a:Ex}(hi:fk T x=some i)(ha:bo n T v=some a):DS X (.Assign [.Name x px] v pos) (fun ro S=>(ae F a ro S).bind fun p S1=>.ok (.next (ro.set i (some p))) S1):=by
 have hN:X.N.Nodup:=by rw[h.N];exact h.nd
 have hx:=ip h.nm hi;have hsh:=pi ha;cases hc:qO v with
 |false=>exact z9 hN hx (fY n h _ _ ha).1 (qS hc _ _ _)
 |true=>
  cases v with
  |ListComp elt gens sc p=>
   rcases JZ (elt:=elt) (gs:=gens) (sc:=sc) (p:=p) (x:=x) (px:=px) (l:=pos.line) (env:=X.env)with hsw|hsw
   ·cases n with
    |zero=>exact nomatch (show(none:Option Ex)=some a from ha)
    |succ n=>
     have ha':qM T (bo n) elt gens sc=some a:=ha;obtain⟨tg,iter,ifs,t,k,as,out,gf,rfl,z,c1,c2,c3,c4,c5⟩:=AU h (fun {X T} h'=>fY n h') (fun T=>mG) (fun T e m z=>pi z) ha';rw[z];exact IZ hN hx h.calm c1 c2 c3 c4 c5 hsw
   ·exact z9 hN hx (fY n h _ _ ha).1 hsw
  |SetComp=>exact absurd rfl (hsh.2.2.1 _ _ _ _)
  |DictComp=>exact absurd rfl (hsh.2.2.2 _ _ _ _ _)
  |_=>cases hc
theorem J2{X:Cx}{T:TE}(h:i7 X T)(hk:X.env.blockKind=.function){x y:Str}{px py pt pt2:Pos}{kt k2:Nat}{a b:Expr}(e:vb T x y px py [a,b]=true)(ha:∀u p,a≠.Starred u p)(hb:∀u p,b≠.Starred u p) :
  swappedStores [.Tuple [.Name x px,.Name y py] kt pt] (.Tuple [a,b] k2 pt2) X.env=pure (some [x,y]):=by
 unfold vb at e;simp only[aG,kn,xv,ne_eq]at e;obtain⟨⟨⟨⟨⟨e1,e2⟩,e3⟩,e4⟩,e5⟩,e6⟩:=e;have k1:X.env.kindOf x=some .local:=by
  rcases h.look x _ (aB e1)with z|⟨z,_⟩
  ·exact z
  ·cases z
 have k2:X.env.kindOf y=some .local:=by
  rcases h.look y _ (aB e2)with z|⟨z,_⟩
  ·exact z
  ·cases z
 have st:∀{e:Expr},(∀u p,e≠.Starred u p)->(match e with|.Starred ..=>true|_=>false)=false:=fun {e} he=>by
  cases e with
  |Starred=>exact absurd rfl (he _ _)
  |_=>rfl
 have s1:([a,b].any fun|.Starred ..=>true|_=>false)=false:=by
  simp only[List.any_cons,List.any_nil,st ha,st hb,p_]
 have hn:([Expr.Name x px,Expr.Name y py].filterMap fun
  |.Name id pos=>if (X.env.kindOf id==some .local&&pos.line==px.line)=true then some id else none
  |_=>none)=[x,y]:=by
  simp only[List.filterMap_cons,List.filterMap_nil,k1,k2,fx,ko,aL];rw[←aB e4];simp
 have hd:([x,y].eraseDups).length=2:=by
  have z:(y==x)=false:=ef.mpr (a7 e3);simp[xw,z]
 unfold swappedStores;dsimp only;simp only[List.length_cons,List.length_nil,hk];simp only[s1,hn,hd,e5,e6,List.head?_cons,Option.map_some,Option.getD_some,show ∀(x:Str)(p:Pos),(Expr.Name x p).pos=p from fun _ _=>rfl];simp[e5,e6];have e4':py.line=px.line:=(aB e4).symm;have z:(y==x)=false:=ef.mpr (a7 e3);simp[List.filterMap_cons,k1,k2,e4',xw,z]
theorem J3{ts vs:List Expr}{k k2:Nat}{p p2:Pos}{env:Env}(h:vs.all (foldedForSure 8)=true):swappedStores [.Tuple ts k p] (.Tuple vs k2 p2) env=pure none:=by
 unfold swappedStores;dsimp only;split
 ·rfl
 split
 ·rfl
 split
 ·rfl
 first|rfl|rw[ag h]
theorem AV{α β:Type}{f:α->Option β}:∀{l:List α}{a:α},a∈l->f a=none->(l.filterMap f).length<l.length
 |b::l,a,h,e=>by
  rcases aP.mp h with rfl|h
  ·rw[List.filterMap_cons_none e,List.length_cons];exact Nat.lt_succ_of_le (List.length_filterMap_le _ _)
  ·have ih:=AV h e;rw[List.filterMap_cons,List.length_cons];split
   ·exact pY ih
   ·rw[List.length_cons];exact Nat.succ_lt_succ ih
theorem J4{X:Cx}{T:TE}(h:i7 X T){ts vs:List Expr}{k k2:Nat}{p p2:Pos}(e:ve T ts=true):swappedStores [.Tuple ts k p] (.Tuple vs k2 p2) X.env=pure none:=by
 unfold ve at e;rw[gU]at e;unfold swappedStores;dsimp only;rcases e with e|e
 ·rw[ag (by rw[e];rfl)]
 ·split
  ·rfl
  split
  ·rfl
  rw[ag];rw[qb]at e;obtain⟨t,ht,hc⟩:=e;cases t with
  |Name x px=>
   have hx:=aB hc;have kx:(X.env.kindOf x==some NameKind.local)=false:=by
    rcases h.look x _ hx with w|⟨w,_⟩
    ·have w':X.env.kindOf x=some .cell:=w;rw[w'];rfl
    ·cases w
   rw[gU];refine .inl (xv.mpr (bU (AV ht ?_)));dsimp only;rw[kx,jj];rfl
  |_=>cases hc
theorem J5{X:Cx}{T:TE}(h:i7 X T)(hk:X.env.blockKind=.function){x y z:Str}{px py pz pt pt2:Pos}{kt k2:Nat}{a b c:Expr}(e:vf T x y z px py pz [a,b,c]=true)(ha:∀u p,a≠.Starred u p)(hb:∀u p,b≠.Starred u p)(hc:∀u p,c≠.Starred u p) :
  swappedStores [.Tuple [.Name x px,.Name y py,.Name z pz] kt pt] (.Tuple [a,b,c] k2 pt2) X.env=pure (some [x,y,z]):=by
 unfold vf at e;simp only[aG,kn,xv,ne_eq]at e;obtain⟨⟨⟨⟨⟨⟨⟨⟨⟨e1,e2⟩,e3⟩,n1⟩,n2⟩,n3⟩,l1⟩,l2⟩,e5⟩,e6⟩:=e;have kk:∀{x:Str},T.names.lookup x=some .local->X.env.kindOf x=some .local:=fun {x} hx=>by
  rcases h.look x _ hx with z|⟨z,_⟩
  ·exact z
  ·cases z
 have k1:=kk (aB e1);have k2':=kk (aB e2);have k3:=kk (aB e3);have st:∀{e:Expr},(∀u p,e≠.Starred u p)->(match e with|.Starred ..=>true|_=>false)=false:=fun {e} he=>by
  cases e with
  |Starred=>exact absurd rfl (he _ _)
  |_=>rfl
 have s1:([a,b,c].any fun|.Starred ..=>true|_=>false)=false:=by
  simp only[List.any_cons,List.any_nil,st ha,st hb,st hc,p_]
 have hn:([Expr.Name x px,Expr.Name y py,Expr.Name z pz].filterMap fun
  |.Name id pos=>if (X.env.kindOf id==some .local&&pos.line==px.line)=true then some id else none
  |_=>none)=[x,y,z]:=by
  simp only[List.filterMap_cons,List.filterMap_nil,k1,k2',k3,fx,ko,aL];rw[←aB l1,←aB l2];simp
 have hd:([x,y,z].eraseDups).length=3:=by
  have z1:(y==x)=false:=ef.mpr (a7 n1);have z2:(z==x)=false:=ef.mpr (a7 n2);have z3:(z==y)=false:=ef.mpr (a7 n3);simp[xw,z1,z2,z3]
 unfold swappedStores;dsimp only;simp only[List.length_cons,List.length_nil,hk];simp only[s1,hn,hd,e5,e6,List.head?_cons,Option.map_some,Option.getD_some,show ∀(x:Str)(p:Pos),(Expr.Name x p).pos=p from fun _ _=>rfl];simp[e5,e6];have l1':py.line=px.line:=(aB l1).symm;have l2':pz.line=px.line:=(aB l2).symm;have z1:(y==x)=false:=ef.mpr (a7 n1);have z2:(z==x)=false:=ef.mpr (a7 n2);have z3:(z==y)=false:=ef.mpr (a7 n3);simp[List.filterMap_cons,k1,k2',k3,l1',l2',xw,z1,z2,z3]
theorem vn{n:Nat}{T:TE}{v:Expr}{c:Nat×CH}(e:i3 n T v=some c):∃fn args kws pos,v=.Call fn args kws pos:=by
 unfold i3 at e;split at e
 ·exact⟨_,_,_,_,rfl⟩
 ·cases e
theorem J6{n:Nat}{X:Cx}{T:TE}(h:bf X T F){v:Expr}{c:Nat×CH}(e:i3 n T v=some c) :
  ∃fa fd prm np k,bZ X.prog X.w X.K X.mg X.base (cD X.prog X.w) k fa fd prm (dS X.K X.mg F c.1 np)/\bj k X.A/\Binds X.K fd prm []/\(∀(args:List PV) S,args.length≠np->F c.1 args S=.bad)/\∀E,bf (X.wish E) T F->o_ (X.wish E) v fa (jL F c.2):=by
 have hs:dW (bo n T):=mG;unfold i3 at e;split at e
 ·rename_i fn args kws pos;split at e
  ·split at e
   ·rename_i x p;split at e
    ·cases e
    ·rename_i hx;simp only[gU,lR,Dx]at hx;split at e
     ·rename_i hg;split at e
      ·rename_i i hi;obtain⟨as,ha,e⟩:=aq e;cases e;obtain⟨fa,fd,prm,np,k,hm,G,hr,hb,hk,hnp⟩:=h.fns x i hi;refine⟨fa,fd,prm,np,k,G,hr,hb,hnp,fun E h'=>?_⟩;have z:jL F (.fn as)=aD F as:=by funext ro S;rfl
       rw[z];cases args with
       |nil=>exact absurd hx.2 (by simp)
       |cons a es=>
        obtain⟨a1,as1,h1,h2,e'⟩:=fm ha;exact Jg (h'.gl (aB hg)) hm hk (bQ (fY n h') hs ha).1 hx.1 (cU (hs _ _ h1) es X.env) ((bQ (fY n h') hs h2).2 pos)
      ·cases e
     ·cases e
   ·rename_i o name apos;split at e
    ·rename_i hc;obtain⟨hn,hline,hlen⟩:=hc;obtain⟨x,p,rfl⟩:=JG hn;split at e
     ·rename_i i hi;obtain⟨a,ha,e⟩:=aq e;obtain⟨as,has,e⟩:=aq e;cases e;obtain⟨fa,fd,prm,np,k,hM,G,hr,hb,hk,hnp⟩:=h.met name i hi;refine⟨fa,fd,prm,np,k,G,hr,hb,hnp,fun E h'=>?_⟩;have hf:=fY n h';obtain⟨pl,hpl⟩:=AQ (o:=.Name x p) (m:=name) (args:=args) (env:=X.env) rfl ((bQ hf hs has).2 pos) hlen hline;have z:jL F (.me T.own name a as)=pb (ae F a) T.own name (aD F as):=by funext ro S;rfl
      rw[z];cases args with
      |nil=>
       cases has;have z:aD F []=fun ro S=>.ok [] S:=rfl;rw[z];exact Ji hM hk (hf _ _ ha).1 hpl
      |cons e1 es=>
       obtain⟨a1,as1,h1,h2,rfl⟩:=fm has;exact Jh hM hk (hf _ _ ha).1 (bQ hf hs has).1 (cU (hs _ _ h1) es X.env) ((bQ hf hs h2).2 pos) hpl
     ·cases e
    ·cases e
   ·cases e
  ·cases e
 ·cases e
theorem J7{n:Nat}{T:TE}{st:Stmt}{t:CT×Nat×CH}(e:vc n T st=some t) :
  ∃v,i3 n T v=some t.2/\∀X:Cx,i7 X T->T.N.Nodup->X.calm=true->mD X t.1 st v:=by
 unfold vc at e;split at e
 ·obtain⟨j,hj,e⟩:=aq e;obtain⟨c,hc,e⟩:=aq e;cases e;obtain⟨fn,args,kws,pos,rfl⟩:=vn hc;exact⟨_,hc,fun X hn nd _=>Jc (by rw[hn.N];exact nd) (ip hn hj) rfl⟩
 ·obtain⟨is,hi,e⟩:=aq e;obtain⟨c,hc,e⟩:=aq e;cases e;obtain⟨fn,args,kws,pos,rfl⟩:=vn hc;exact⟨_,hc,fun X hn nd hcm=>Jd (by rw[hn.N];exact nd) hcm (ph hn hi) rfl rfl⟩
 ·obtain⟨c,hc,e⟩:=aq e;cases e;exact⟨_,hc,fun X hn nd _=>Je⟩
 ·obtain⟨c,hc,e⟩:=aq e;cases e;obtain⟨fn,args,kws,pos,rfl⟩:=vn hc;exact⟨_,hc,fun X hn nd _=>Jf rfl⟩
 ·cases e
theorem J8{X:Cx}{T:TE}(h:bf X T F){x:Str}(e:vd T x=true):Gl X x/\(x==("__debug__":Str))=false/\∃C,X.mg x=some (.ref C)/\k_ X.K C:=by
 unfold vd at e;simp only[aG,kn]at e;obtain⟨⟨e1,e2⟩,e3⟩:=e;refine⟨h.gl (aB e2),e3,h.cls x ?_⟩;split at e1
 ·assumption
 ·cases e1
theorem AW:∀(es:List Ex)(ro:Ro)(S:aa)(ps:List PV)(S1:aa),aD F es ro S=.ok ps S1->ps.length=es.length
 |[],ro,S,ps,S1,h=>by rw[ox]at h;cases h;rfl
 |e::es,ro,S,ps,S1,h=>by
  rw[jK]at h;cases he:ae F e ro S with
  |ok p S2=>
   rw[he,ac.bind_ok]at h;cases hs:aD F es ro S2 with
   |ok qs S3=>
    rw[hs,ac.bind_ok]at h;cases h;simp[AW es ro S2 qs _ hs]
   |exn c S3=>rw[hs]at h;cases h
   |bad=>rw[hs]at h;cases h
  |exn c S3=>rw[he]at h;cases h
  |bad=>rw[he]at h;cases h
theorem J9{wf n:Nat}{X:Cx}{T:TE}(h:bf X T F)(stk:X.stack=X.env::X.outer)(hfr:X.env.frame=some X.env.locals){s:Stmt}{m:Sx}(e:pe n T s=some m):DS X s (aY F wf m):=by
 have hf:=fY n h;have hs:dW (bo n T):=mG;unfold pe at e;split at e
 ·unfold AG at e;split at e
  rotate_left
  ·cases e
  split at e
  rotate_left
  ·cases e
  rename_i x np a;split at e
  ·rename_i hc;obtain⟨hg,hd,C,hm,hC⟩:=J8 h hc;obtain⟨a1,ha,e⟩:=aq e;cases e;have hl:cE (bo n T) [a]=some [a1]:=by simp[cE,ha]
   have z:aY F wf (.raise x [a1])=fun ro S=>(aD F [a1] ro S).bind fun _ S1=>.exn x S1:=rfl;rw[z];exact Jl h.calm hg hm hC (bQ hf hs hl).1 (fun ro S ps S1 q=>by rw[AW _ _ _ _ _ q];show 1<=16777216;decide) hd (cU (hs _ _ ha) [] X.env) (fun _=>rfl)
  ·cases e
 ·obtain⟨⟨t,i,as⟩,ht,e⟩:=aq e;split at e
  ·cases e;obtain⟨v,hv,h5⟩:=J7 ht;obtain⟨fa,fd,prm,np,k,G,hr,hb,hnp,dc⟩:=J6 h hv;have z:aY F wf (.calls t i as)=fun ro S=>(jL F as ro S).bind fun ps S1=>(F i ps S1).andF fun p S2=>jM t p ro S2:=rfl;rw[z];exact Jj (h5 X h.nm h.nd h.calm) (dc X.xe h) G hr hb hnp
  ·cases e
theorem vo:∀{es:List Expr}{xs:List (Str×Pos)},mF es=some xs->es=xs.map fun y=>.Name y.1 y.2
 |[],xs,h=>by unfold mF at h;cases h;rfl
 |e::es,xs,h=>by
  unfold mF at h;obtain⟨x,hx,h⟩:=aq h;obtain⟨ys,hy,h⟩:=aq h;cases h;rw[vo hy];cases e<;>first|(cases hx;rfl)|cases hx
theorem J_{wf n:Nat}{X:Cx}{T:TE}(h:bf X T F)(hk:X.env.blockKind=.function){es vs:List Expr}{kt k2:Nat}{pt pt2 pos:Pos}{m:Sx}(q:vg n T es vs=some m):DS X (.Assign [.Tuple es kt pt] (.Tuple vs k2 pt2) pos) (aY F wf m):=by
 have hf:=fY n h;have hs:dW (bo n T):=mG;have hN:X.N.Nodup:=by rw[h.N];exact h.nd
 unfold vg at q;split at q
 ·rename_i hfo;obtain⟨is,hi,q⟩:=aq q;obtain⟨as,ha,q⟩:=aq q;cases q;have z:aY F wf (.asgT is (.tup as))=fun ro S=>(ae F (.tup as) ro S).bind fun p S1=>match bx (.many is) p ro with|some ro1=>.ok (.next ro1) S1|none=>.bad:=rfl
  have z2:ae F (.tup as)=fun ro S=>(aD F as ro S).bind fun ps S1=>if ps.length<=aj then .ok (.tup ps) S1 else .bad:=rfl
  rw[z,z2];refine z_ hN h.calm (ph h.nm hi) (zH (bQ hf hs ha).1) (by unfold swapsWithSole;exact qS rfl _ _ _) ?_;rw[gU]at hfo;exact hfo.elim J3 (J4 h.nm)
 cases hnm:mF es with
 |none=>rw[hnm]at q;cases q
 |some nms=>
 rw[hnm]at q;dsimp only at q;split at q
 ·have he:es=[.Name _ _,.Name _ _]:=vo hnm;subst he;split at q
  ·rename_i hp;obtain⟨i,hi,q⟩:=aq q;obtain⟨j,hj,q⟩:=aq q;obtain⟨as,ha,q⟩:=aq q;split at q
   ·cases q
   ·rename_i hij;cases q;have z:aY F wf (.par [i,j] as)=fun ro S=>(aD F as ro S).bind fun ps S1=>if ps.length=2 then .ok (.next (fE [i,j] ps ro)) S1 else .bad:=rfl
    rw[z];obtain⟨a1,as1,h1,h2,rfl⟩:=fm ha;obtain⟨a2,as2,h3,h4,rfl⟩:=fm h2;exact Hq hN h.calm (ip h.nm hi) (ip h.nm hj) (fun e=>hij (by rw[e];exact fx _)) (bQ hf hs ha).1 rfl (J2 h.nm hk hp (hs _ _ h1) (hs _ _ h3))
  ·cases q
 ·have he:es=[.Name _ _,.Name _ _,.Name _ _]:=vo hnm;subst he;split at q
  ·rename_i hp;obtain⟨i,hi,q⟩:=aq q;obtain⟨j,hj,q⟩:=aq q;obtain⟨l,hl,q⟩:=aq q;obtain⟨as,ha,q⟩:=aq q;split at q
   ·cases q
   ·rename_i hij;cases q;simp only[gU,jk,lR]at hij;have z:aY F wf (.par [i,j,l] as)=fun ro S=>(aD F as ro S).bind fun ps S1=>if ps.length=3 then .ok (.next (fE [i,j,l] ps ro)) S1 else .bad:=rfl
    rw[z];obtain⟨a1,as1,h1,h2,rfl⟩:=fm ha;obtain⟨a2,as2,h3,h4,rfl⟩:=fm h2;obtain⟨a3,as3,h5,h6,rfl⟩:=fm h4;exact Hs hN h.calm (ip h.nm hi) (ip h.nm hj) (ip h.nm hl) hij.1.1 hij.1.2 hij.2 (bQ hf hs ha).1 rfl (J5 h.nm hk hp (hs _ _ h1) (hs _ _ h3) (hs _ _ h5))
  ·cases q
 ·cases q
theorem Ka{wf n:Nat}{X:Cx}{T:TE}(h:bf X T F)(hk:X.env.blockKind=.function){t v:Expr}{pos:Pos}{m:Sx}(q:vh n T t v=some m):DS X (.Assign [t] v pos) (aY F wf m):=by
 have hf:=fY n h;have hN:X.N.Nodup:=by rw[h.N];exact h.nd
 unfold vh at q;split at q
 ·obtain⟨i,hi,q⟩:=aq q;obtain⟨a,ha,q⟩:=aq q;cases q;have z:aY F wf (.asg i a)=fun ro S=>(ae F a ro S).bind fun p S1=>.ok (.next (ro.set i (some p))) S1:=rfl;rw[z];exact J1 h hi ha
 ·split at q
  ·exact J_ h hk q
  ·rename_i hnt;split at q
   ·cases q
   ·rename_i hc;obtain⟨is,hi,q⟩:=aq q;obtain⟨a,ha,q⟩:=aq q;cases q;have z:aY F wf (.asgT is a)=fun ro S=>(ae F a ro S).bind fun p S1=>match bx (.many is) p ro with|some ro1=>.ok (.next ro1) S1|none=>.bad:=rfl
    rw[z];exact z_ hN h.calm (ph h.nm hi) (hf _ _ ha).1 (by unfold swapsWithSole;exact qS (by simpa using hc) _ _ _) (J0 (fun a b c e=>hnt _ _ _ e))
 ·rename_i o name pos';split at q
  ·rename_i hc;obtain⟨y,hy,q⟩:=aq q;obtain⟨a,ha,q⟩:=aq q;cases q;have z:aY F wf (.setf T.own a name y)=fun ro S=>(ae F y ro S).bind fun y S1=>(ae F a ro S1).bind fun x S2=>(cm S2 T.own x name y).bind fun _ S3=>.ok (.next ro) S3:=rfl;rw[z];exact Hz (h.ats name (by simpa using hc)) (hf _ _ ha).1 (hf _ _ hy).1 (by cases v<;>rfl)
  ·cases q
 ·obtain⟨y,hy,q⟩:=aq q;obtain⟨a,ha,q⟩:=aq q;obtain⟨k,hk',q⟩:=aq q;cases q;have z:aY F wf (.seti a k y)=fun ro S=>(ae F y ro S).bind fun y S1=>(ae F a ro S1).bind fun x S2=>(ae F k ro S2).bind fun z S3=>(dQ S3 x z y).bind fun _ S4=>.ok (.next ro) S4:=rfl;rw[z];exact HC h.un (hf _ _ ha).1 (hf _ _ hk').1 (hf _ _ hy).1 (by cases v<;>rfl)
 ·cases q
theorem vp{op:Operator}{o:eD}(h:qP op=some o):(op=.Add/\o=.add)\/(op=.Sub/\o=.sub):=by
 cases op with
 |Add=>cases h;exact .inl ⟨rfl,rfl⟩
 |Sub=>cases h;exact .inr ⟨rfl,rfl⟩
 |_=>cases h
theorem Kb{wf n:Nat}{X:Cx}{T:TE}(h:bf X T F){t v:Expr}{op:Operator}{pos:Pos}{m:Sx}(q:vi n T t op v=some m):DS X (.AugAssign t op v pos) (aY F wf m):=by
 have hf:=fY n h;have hN:X.N.Nodup:=by rw[h.N];exact h.nd
 unfold vi at q;split at q
 ·obtain⟨o,ho,q⟩:=aq q;obtain⟨i,hi,q⟩:=aq q;obtain⟨a,ha,q⟩:=aq q;cases q;have z:aY F wf (.aug i o a)=fun ro S=>match ro[i]? with
   |some (some v)=>(ae F a ro S).bind fun y S1=>(eS S1 o v y).bind fun z S2=>.ok (.next (ro.set i (some z))) S2
   |_=>.bad:=rfl
  rw[z];exact HH (vp ho) hN (ip h.nm hi) (hf _ _ ha).1
 ·rename_i ob name p';split at q
  ·rename_i hc;obtain⟨o,ho,q⟩:=aq q;obtain⟨a,ha,q⟩:=aq q;obtain⟨y,hy,q⟩:=aq q;cases q;have z:aY F wf (.augf T.own a name o y)=fun ro S=>(ae F a ro S).bind fun x S1=>(bN S1 T.own x name).bind fun v S2=>(ae F y ro S2).bind fun y S3=>(eS S3 o v y).bind fun z S4=>(cm S4 T.own x name z).bind fun _ S5=>.ok (.next ro) S5:=rfl;rw[z];exact HI (vp ho) (h.ats name (by simpa using hc)) (hf _ _ ha).1 (hf _ _ hy).1
  ·cases q
 ·obtain⟨o,ho,q⟩:=aq q;obtain⟨a,ha,q⟩:=aq q;obtain⟨k,hk,q⟩:=aq q;obtain⟨y,hy,q⟩:=aq q;cases q;have z:aY F wf (.augi a k o y)=fun ro S=>(ae F a ro S).bind fun x S1=>(ae F k ro S1).bind fun z S2=>(gv S2 x z).bind fun v S3=>(ae F y ro S3).bind fun y S4=>(eS S4 o v y).bind fun w S5=>(jH S5 x z w).bind fun _ S6=>.ok (.next ro) S6:=rfl;rw[z];exact HW h.un (vp ho) (hf _ _ ha).1 (hf _ _ hk).1 (hf _ _ hy).1 (pi hk).2.1
 ·cases q
theorem Kc{e:Expr}(h:AH e=true):∃x k p,e=.Constant (.str x) k p:=by
 cases e with
 |Constant c k p=>cases c with
  |str x=>exact⟨x,k,p,rfl⟩
  |_=>cases h
 |_=>cases h
theorem Kd{wf n:Nat}{X:Cx}{T:TE}(h:bf X T F)(hk:X.env.blockKind=.function){r:List Stmt->Option (List Sx)}(ih:∀ss ms,r ss=some ms->ik X ss (ar F wf ms)){s:Stmt}{m:Sx}(q:qQ n T r s=some m):DS X s (aY F wf m):=by
 have hf:=fY n h;have hs:dW (bo n T):=mG;have hN:X.N.Nodup:=by rw[h.N];exact h.nd
 unfold qQ at q;split at q
 ·split at q
  ·exact Ka h hk q
  ·cases q
 ·split at q
  ·rename_i hx;obtain⟨x,k,p,rfl⟩:=Kc hx;cases q;have z:aY F wf .pass=fun ro S=>.ok (.next ro) S:=rfl;rw[z];exact Hm
  ·split at q
   ·cases q
   ·rename_i hc;obtain⟨a,ha,q⟩:=aq q;cases q;have z:aY F wf (.exp a)=fun ro S=>(ae F a ro S).bind fun _ S1=>.ok (.next ro) S1:=rfl;rw[z];exact Hl (hf _ _ ha).1 (qS (by simpa using hc) _ _ _)
 ·split at q
  ·obtain⟨a,ha,q⟩:=aq q;cases q;have z:aY F wf (.ret a)=fun ro S=>(ae F a ro S).bind fun p S1=>.ok (.ret p) S1:=rfl;rw[z];exact Hg (hf _ _ ha).1
  ·cases q;have z:aY F wf .retN=fun ro S=>.ok (.ret .non) S:=rfl;rw[z];exact Hh
 ·obtain⟨c,hc,q⟩:=aq q;obtain⟨a,ha,q⟩:=aq q;obtain⟨b,hb,q⟩:=aq q;cases q;have z:aY F wf (.ite c a b)=fun ro S=>(ae F c ro S).bind fun x S1=>match aJ S1 x with|some true=>ar F wf a ro S1|some false=>ar F wf b ro S1|none=>.bad:=rfl
  rw[z];exact Hn (hf _ _ hc).2 (ih _ _ ha) (ih _ _ hb)
 ·split at q
  ·obtain⟨t,ht,q⟩:=aq q;obtain⟨⟨k,as⟩,hi,q⟩:=aq q;obtain⟨b,hb,q⟩:=aq q;cases q;have z:aY F wf (.for_ t k as b)=uz (aD F as) k t (ar F wf b):=rfl;rw[z];exact Ia h.pass h.calm hN (AL h hf hs hi) (AK h.nm ht) (ih _ _ hb) (AM (by
    unfold lg at hi;split at hi
    ·intro x k p;rintro⟨⟩
    ·intro x k p;rintro⟨⟩
    ·obtain⟨a,ha,_⟩:=aq hi;exact(pi ha).1) X.env)
  ·cases q
 ·split at q
  ·obtain⟨c,hc,q⟩:=aq q;obtain⟨b,hb,q⟩:=aq q;cases q;have z:aY F wf (.whl c b)=fun ro S=>cQ (ae F c) (ar F wf b) wf ro S:=rfl;rw[z];exact Ib h.pass (hf _ _ hc).2 (ih _ _ hb)
  ·cases q
 ·exact Kb h q
 ·cases q;have z:aY F wf .pass=fun ro S=>.ok (.next ro) S:=rfl;rw[z];exact Hi
 ·cases q;have z:aY F wf .brk=fun ro S=>.ok (.brk ro) S:=rfl;rw[z];exact Hj
 ·cases q;have z:aY F wf .cnt=fun ro S=>.ok (.cnt ro) S:=rfl;rw[z];exact Hk
 ·cases q
theorem AX{wf:Nat}:∀(n:Nat){X:Cx}{T:TE},bf X T F->X.env.blockKind=.function->X.stack=X.env::X.outer->X.env.frame=some X.env.locals->∀ss ms,i6 n T ss=some ms->ik X ss (ar F wf ms)
 |n,X,T,h,hk,stk,hfr,[],ms,q=>by
  have q:some []=some ms:=by cases n<;>exact q
  cases q;have z:ar F wf []=fun ro S=>.ok (.next ro) S:=rfl;rw[z];exact He
 |0,X,T,h,hk,stk,hfr,s::ss,ms,q=>nomatch (show(none:Option (List Sx))=some ms from q)
 |n+1,X,T,h,hk,stk,hfr,s::ss,ms,q=>by
  have ih:=AX (wf:=wf) n h hk stk hfr
  replace q:((match pe n T s with|some a=>some a|none=>qQ n T (i6 n T) s).bind fun a=>(i6 n T ss).bind fun as=>some (a::as))=some ms:=q
  obtain⟨a,ha,q⟩:=aq q;obtain⟨as,has,q⟩:=aq q;cases q;have z:ar F wf (a::as)=uw (aY F wf a) (ar F wf as):=rfl;rw[z];refine Hf ?_ (ih _ _ has);cases hr:pe n T s with
  |some a'=>rw[hr]at ha;cases ha;exact J9 h stk hfr hr
  |none=>rw[hr]at ha;exact Kd h hk ih ha
end
end Q
namespace Q
open PySem PySem.Spec PyProof.Rows L2 PySem.SeqAt
theorem AY{P:Program}{w:World}{K:PySem.W.Frag}{mg:Str->Option Value}{base:Heap}{R:List ax}{G:List (Str×GV)}{mt:List (Nat×Nat)}{rs:List Nat}{own:Str}{ats:List Str}{me:List (Str×Nat)}{wf fuel:Nat}{ad:Nat->Addr}{fds:Nat->FuncData}
  (hfun:∀(i:Nat)(r:ax),R[i]?=some r->kM K r.name r.qual r.st (ad i) (fds i)/\Binds K (fds i) r.ps [])
  (i8:∀(i:Nat)(r:ax),R[i]?=some r->kL r.N r.ps (cL r.st)/\r.d.np=r.ps.length/\r.d.nl=r.N.length/\i6 fuel ⟨r.N,(cL r.st).names,G,mt,rs,own,ats,me⟩ (fR r.st)=some r.d.body)
  (hcon:∀x p,G.lookup x=some (.con p)->∃u v,mg x=some u/\RelV v u/\∀H mu,ak K H mu p v)
  (hblt:∀x,G.lookup x=some .blt->mg x=none)
  (htab:∀x D,G.lookup x=some (.tab D)->∃a,mg x=some (.ref a)/\mx K D a)
  (hcls:∀x,G.lookup x=some .cls->∃C,mg x=some (.ref C)/\k_ K C)
  (hfn:∀x i,G.lookup x=some (.fn i)->∃r:ax,R[i]?=some r/\mg x=some (.ref (ad i)))
  (hown:∀x i,G.lookup x=some (.own i)->∃(r:ax)(C:Addr),R[i]?=some r/\mg x=some (.ref C)/\PySem.W.nsIn K mainGlobals x=some (some (.ref C))/\Mk K C (ad i))
  (hats:∀f,f∈ats->o3 K own f)
  (hme:∀m i,me.lookup m=some i->∃r:ax,R[i]?=some r/\mv K own m (ad i)) :
  ∀(n i:Nat)(r:ax),R[i]?=some r->bZ P w K mg base (cD P w) (2*n) (ad i) (fds i) r.ps (dS K mg (af (R.map (·.d)) wf n) i r.ps.length)
 |0,i,r,hr=>by
  refine⟨fun vs H Q E h=>?_,fun A outer s H args us vs Q E _ _ _ _ h=>?_⟩
  ·obtain⟨mu,S,as,_,_,_,z⟩:=h;simp only[af]at z
  ·obtain⟨mu,S,as,_,_,_,z⟩:=h;simp only[af]at z
 |n+1,i,r,hr=>by
  have ih:=AY (P:=P) (w:=w) (base:=base) (wf:=wf) hfun i8 hcon hblt htab hcls hfn hown hats hme n;obtain⟨F1,_⟩:=hfun i r hr;obtain⟨S1,np,nl,tr⟩:=i8 i r hr;have hD:(R.map (·.d))[i]?=some r.d:=by rw[bG,hr];rfl
  have get:∀(j:Nat)(r':ax),R[j]?=some r'->Binds K (fds j) r'.ps []/\PySem.W.keepIn K (.ref (ad j))=true/\∀(args:List PV)(S:aa),args.length≠r'.ps.length->af (R.map (·.d)) wf n j args S=.bad:=fun j r' hr'=>by
   obtain⟨F2,B2⟩:=hfun j r' hr';obtain⟨S2,np2,nl2,tr2⟩:=i8 j r' hr';have hD2:(R.map (·.d))[j]?=some r'.d:=by rw[bG,hr'];rfl
   exact⟨B2,F2.kp,Jo hD2 np2⟩
  have q:=Jn (P:=P) (w:=w) (mg:=mg) (base:=base) (k:=2*n+1) (n:=n) (i:=i) (D:=R.map (·.d)) (wf:=wf) F1 S1 hD np nl (fun cdv A outer s H E hroom=>?_)
  ·rw[np]at q;exact q
  ·have bk:(iP (cD P w) P w K mg base r.N r.qual (cL r.st) (ad i) cdv A outer s H E).env.blockKind=.function:=by
    show(if (cL r.st).kind.isAnnotationScope then ScopeKind.function else (cL r.st).kind)=.function
    rw[S1.kind];rfl
   refine(AX (F:=af (R.map (·.d)) wf n) (wf:=wf) fuel (T:=⟨r.N,(cL r.st).names,G,mt,rs,own,ats,me⟩) ?_ bk rfl rfl) _ _ tr;exact {
       N:=rfl,nd:=S1.nd,look:=fun x k h=>.inl h,fnc:=fun _ _=>rfl,con:=hcon,tab:=htab,blt:=hblt,cls:=hcls,ats:=hats,calm:=rfl,gd:=hroom.gd,un:=hroom.units,pass:=PassesOwn.leaving
       fns:=fun x j hx=>by
        obtain⟨r',hr',m2⟩:=hfn x j hx;obtain⟨g1,g2,g3⟩:=get j r' hr';exact⟨ad j,fds j,r'.ps,r'.ps.length,2*n,m2,ih j r' hr',hroom.mono (by omega),g1,g2,g3⟩
       own:=fun x j hx=>by
        obtain⟨r',C,hr',m2,m3,M⟩:=hown x j hx;obtain⟨g1,g2,g3⟩:=get j r' hr';exact⟨C,ad j,fds j,r'.ps,r'.ps.length,2*n,m2,m3,M,ih j r' hr',hroom,g1,g3⟩
       met:=fun m j hx=>by
        obtain⟨r',hr',hM⟩:=hme m j hx;obtain⟨g1,g2,g3⟩:=get j r' hr';exact⟨ad j,fds j,r'.ps,r'.ps.length,2*n,hM,ih j r' hr',hroom.mono (by omega),g1,g2,g3⟩ }
noncomputable def jX(K:PySem.W.Frag)(mg:Str->Option Value)(R:List ax)(ad:Nat->Addr)(x:Str):GV->Prop
 |.con p=>∃u v,mg x=some u/\RelV v u/\∀H mu,ak K H mu p v
 |.blt=>mg x=none
 |.tab D=>∃a,mg x=some (.ref a)/\mx K D a
 |.cls=>∃C,mg x=some (.ref C)/\k_ K C
 |.fn i=>∃r:ax,R[i]?=some r/\mg x=some (.ref (ad i))
 |.own i=>∃(r:ax)(C:Addr),R[i]?=some r/\mg x=some (.ref C)/\PySem.W.nsIn K mainGlobals x=some (some (.ref C))/\Mk K C (ad i)
noncomputable def vq(K:PySem.W.Frag)(mg:Str->Option Value)(R:List ax)(ad:Nat->Addr):List (Str×GV)->Prop
 |[]=>True
 |y::l=>jX K mg R ad y.1 y.2/\vq K mg R ad l
theorem li{K:PySem.W.Frag}{mg:Str->Option Value}{R:List ax}{ad:Nat->Addr}:∀{G:List (Str×GV)}{x:Str}{v:GV},vq K mg R ad G->G.lookup x=some v->jX K mg R ad x v
 |[],x,v,_,e=>by cases e
 |(y,u)::G,x,v,h,e=>by
  rw[List.lookup_cons]at e;split at e
  ·rename_i hx;cases e;rw[aB hx];exact h.1
  ·exact li h.2 e
theorem Ke{K:PySem.W.Frag}{mg:Str->Option Value}{x:Str}{i:Int}{t:Tok}(h:mg x=some (.int i t)):∃u v,mg x=some u/\RelV v u/\∀H mu,ak K H mu (.int i) v:=⟨_,.int i,h,⟨t,rfl⟩,fun H mu=>by simp only[ak]⟩
theorem AZ{K:PySem.W.Frag}:∀{D:List (Str×Int)}{es:List DictEntry},KTD.rowsLook (KTD.datLooks fun _=>none) es (fS D)=true->KTD.rowsLook (KTD.datLooks fun b=>K.lookup b) es (fS D)=true
 |[],[],_=>rfl
 |[],_::_,h=>Bool.noConfusion (show false=true from h)
 |_::_,[],h=>Bool.noConfusion (show false=true from h)
 |(x,i)::D,e::es,h=>
  have g:((match e.key with|.str y _=>y==x|_=>false)&&KTD.flatLooks (.int i) e.val&&KTD.rowsLook (KTD.datLooks fun _=>none) es (fS D))=true:=h
  have g2:=gR.mp g
  gR.mpr ⟨g2.1,AZ (D:=D) g2.2⟩
theorem Kf{K:PySem.W.Frag}{D:List (Str×Int)}{a:Addr}{o:Obj}(ho:K.lookup a=some o)(ht:tabLook D a o=true):mx K D a:=by
 unfold mx KTD.tabLook;dsimp only;rw[ho];unfold tabLook at ht;rw[aG]at ht ⊢;refine⟨ht.1,?_⟩;dsimp only;have h2:=ht.2;rw[aG]at h2 ⊢;refine⟨h2.1,?_⟩;have h3:=h2.2;cases hd:o.data with
 |dict es ep=>rw[hd]at h3;exact AZ h3
 |_=>rw[hd]at h3;cases h3
theorem Kg{K:PySem.W.Frag}{mg:Str->Option Value}{x:Str}{a:Addr}{ys:List Str}(h:mg x=some (.ref a)){o:Obj}(ho:K.lookup a=some o)(ht:sy ys o=true)(hl:ys.length<=1000):∃u v,mg x=some u/\RelV v u/\∀H mu,ak K H mu (.tup (ys.map PV.str)) v:=by
 refine⟨_,.ref a,h,rfl,fun H mu=>?_⟩;simp only[ak];unfold sy at ht
 ·rw[aG]at ht;obtain⟨hc,ht⟩:=ht;split at ht
  ·rename_i vs n hd;have key:∀(ys:List Str)(us:List Value),KTD.flatsLook (ys.map PyData.str) us=true->az (ys.map V.str) us:=by
    intro ys
    induction ys with
    |nil=>intro us h;cases us with
     |nil=>exact .nil
     |cons u us=>exact Bool.noConfusion (show false=true from h)
    |cons y ys ih=>intro us h;cases us with
     |nil=>exact Bool.noConfusion (show false=true from h)
     |cons u us=>
      have h:=gR.mp (show(KTD.flatLooks (.str y) u&&KTD.flatsLook (ys.map PyData.str) us)=true from h);refine .cons ?_ (ih us h.2);have h1:=h.1;cases u with
      |str z t=>exact⟨t,by rw[show y=z from aB h1]⟩
      |_=>exact Bool.noConfusion (show false=true from h1)
   have hv:=key ys vs.toList ht;refine⟨a,ys.map V.str,rfl,.inr ⟨o,vs,n,ho,aB hc,hd,?_,hv⟩,?_⟩
   ·have:=hv.length;simp at this;have hl':sizeLine=16777216:=cy;omega
   ·clear ht hv hl h key
    induction ys with
    |nil=>exact ai.nil
    |cons y ys ih=>exact ai.cons (by simp only[ak]) ih
  ·cases ht
theorem A0{K:PySem.W.Frag}{H:Hp}{mu:List Addr}:∀(ns:List Int),ai K H mu (ns.map PV.int) (ns.map V.int)
 |[]=>ai.nil
 |n::ns=>ai.cons (by simp only[ak]) (A0 ns)
theorem Kh{K:PySem.W.Frag}{H:Hp}:ap K H [] []:=by
 first|exact⟨rfl,by simp,by simp⟩|exact⟨rfl,List.nodup_nil,fun i a o h=>by simp at h⟩|constructor<;>simp
noncomputable def A1(K:PySem.W.Frag)(F:Nat->List PV->aa->ac PV)(i np:Nat):Sp:=fun vs H Q _=>
 ∃mu S args,ap K H mu S/\ai K H mu args vs/\args.length=np/\match F i args S with
  |.ok p S'=>∀v H' mu',ak K H' mu' p v->ap K H' mu' S'->Step H mu H' mu'->Q v H'
  |_=>False
theorem Ki{K:PySem.W.Frag}{mg:Str->Option Value}{F:Nat->List PV->aa->ac PV}{i np:Nat}(vs:List V)(H:Hp)(Q:VK)(E:XK)(h:A1 K F i np vs H Q E):dS K mg F i np vs H Q E:=by
 obtain⟨mu,S,args,h1,h2,h3,h4⟩:=h;refine⟨mu,S,args,h1,h2,h3,?_⟩;cases hF:F i args S with
 |ok p S'=>rw[hF]at h4;exact h4
 |exn c S'=>rw[hF]at h4;exact h4.elim
 |bad=>rw[hF]at h4;exact h4
theorem Kj{K:PySem.W.Frag}{H:Hp}{a:Addr}{ns:List Int}{F:Nat->List PV->aa->ac PV}{i:Nat}{S':aa}(hS:br K H a (ns.map V.int))(h:F i [.lst (ns.map PV.int)] []=.ok (.bl true) S') :
  A1 K F i 1 [.ref a] H (fun v _=>v=.bl true) fun _ _ _=>False:=by
 refine⟨[],[],[.lst (ns.map PV.int)],Kh,ai.cons ?_ ai.nil,rfl,?_⟩
 ·simp only[ak];refine⟨a,ns.map V.int,rfl,?_,A0 ns⟩;rcases hS with (h|⟨o,h⟩)|h
  ·exact .inl ⟨h,by simp⟩
  ·exact .inr (.inl ⟨o,h⟩)
  ·exact .inr (.inr h)
 ·rw[h];intro v H' mu' r _ _
  simpa only[ak]using r
theorem Kk{P:Program}{w:World}(H:Hp)(s:Shared)(e:Value)(s':Shared)(h:cD P w [] H s (fun _ _ _=>False) e s'):False:=by
 obtain⟨_,_,_,_,_,_,_,_,_,_,_,_,_,_,z⟩:=h;exact z
theorem Kl{fd:FuncData}{ps:List Str}(h:∀a:Value,bindArgs fd ⟨[a],[]⟩=pure (ps.zip [a])):∀us:List Value,us.length=1->bindArgs fd ⟨us,[]⟩=pure (ps.zip us)
 |[a],_=>h a
theorem Km{fd:FuncData}{ps:List Str}(h:∀a b:Value,bindArgs fd ⟨[a,b],[]⟩=pure (ps.zip [a,b])):∀us:List Value,us.length=2->bindArgs fd ⟨us,[]⟩=pure (ps.zip us)
 |[a,b],_=>h a b
theorem Kn{fd:FuncData}{ps:List Str}(h:∀a b c:Value,bindArgs fd ⟨[a,b,c],[]⟩=pure (ps.zip [a,b,c])):∀us:List Value,us.length=3->bindArgs fd ⟨us,[]⟩=pure (ps.zip us)
 |[a,b,c],_=>h a b c
theorem Ko{fd:FuncData}{ps:List Str}(h:∀a b c d:Value,bindArgs fd ⟨[a,b,c,d],[]⟩=pure (ps.zip [a,b,c,d])):∀us:List Value,us.length=4->bindArgs fd ⟨us,[]⟩=pure (ps.zip us)
 |[a,b,c,d],_=>h a b c d
end Q
namespace Q
open PySem PySem.Spec PyProof.Rows L2 PySem.SeqAt
theorem Kp{n:Nat}{h:Heap}:(dL n h).In h:=by
 unfold dL;generalize List.range n=l;intro a o e
 induction l with
 |nil=>cases e
 |cons b l ih=>
  rw[List.filterMap_cons]at e;cases hb:h.get? b with
  |none=>rw[hb]at e;exact ih e
  |some ob=>
   rw[hb]at e;simp only[Option.map_some,List.lookup_cons]at e;split at e
   ·rename_i hx;cases e;rw[aB hx];exact hb
   ·exact ih e
section
variable(K:PySem.W.Frag)(own:Str)(R:List ax)
noncomputable def jY(i:Nat):Addr:=match R[i]? with
 |some r=>dM K own r
 |none=>0
noncomputable def lj(i:Nat):FuncData:=(jr K (jY K own R i)).getD default
end
section
variable{K:PySem.W.Frag}{own:Str}{R:List ax}
theorem mH{i:Nat}{r:ax}(h:R[i]?=some r):jY K own R i=dM K own r:=by unfold jY;rw[h]
theorem pk{r:ax}(h:fT K own r=true):ky K own r=some (some (.ref (dM K own r)))/\(∃fd,jr K (dM K own r)=some fd/\PySem.W.codeIn K fd.code r.qual=true)/\PySem.W.keepIn K (.ref (dM K own r))=true/\PySem.W.isFn K (.ref (dM K own r))=true:=by
 unfold fT at h;simp only[aG]at h;obtain⟨⟨h1,h2⟩,h3,h4⟩:=h;refine⟨?_,?_,h3,h4⟩
 ·obtain⟨a,ha⟩:=iA.mp h1;have:=jV ha;unfold dM;rw[ha];exact this
 ·cases hf:jr K (dM K own r)with
  |none=>rw[hf]at h2;cases h2
  |some fd=>rw[hf]at h2;exact⟨fd,rfl,h2⟩
theorem A2{r:ax}(h:fT K own r=true)(e:(jr K (dM K own r)).map sA=some (PySem.W.fnOf r.name r.qual (kr r.st) (fR r.st) (cL r.st) .none .none .none .none none .none .none)) :
  kM K r.name r.qual r.st (dM K own r) ((jr K (dM K own r)).getD default):=by
 obtain⟨_,⟨fd,hf,hcd⟩,hk,_⟩:=pk h;rw[hf]at e ⊢;simp only[Option.map_some,bT,Option.getD_some]at e ⊢;refine⟨?_,hk⟩;unfold jr at hf;split at hf
 ·rename_i oc od fd' osl hl;cases hf;obtain⟨n1,n2,n3,n4,n5,n6,n7,n8,n9,n10,n11,n12,n13,n14,n15⟩:=fd;unfold sA at e;simp only[FuncData.mk.injEq]at e;obtain⟨rfl,rfl,rfl,rfl,rfl,rfl,rfl,rfl,-,-,-,-,-,-,rfl⟩:=e;exact⟨oc,od,n9,n10,n11,n12,n13,n14,osl,rfl,hl,hcd⟩
 ·cases hf
theorem A3:∀{xs:List PV}{ys:List Str},gk xs=some ys->xs=ys.map PV.str
 |[],ys,h=>by cases h;rfl
 |.str x::l,ys,h=>by
  simp only[gk]at h;cases e:gk l with
  |none=>rw[e]at h;cases h
  |some zs=>rw[e]at h;cases h;rw[A3 e];rfl
 |.non::l,ys,h=>by simp[gk]at h
 |.bl _::l,ys,h=>by simp[gk]at h
 |.int _::l,ys,h=>by simp[gk]at h
 |.tup _::l,ys,h=>by simp[gk]at h
 |.lst _::l,ys,h=>by simp[gk]at h
 |.ref _::l,ys,h=>by simp[gk]at h
theorem Kq{h:Heap}{mg:Str->Option Value}(X:K.In h)(Gm:h.Ns mainGlobals mg)(hR:∀(i:Nat)(r:ax),R[i]?=some r->fT K own r=true){x:Str}{v:GV}(hg:gB K own R x v=true):jX K mg R (jY K own R) x v:=by
 cases v with
 |con p=>
  have hg:sB K x p=true:=hg;unfold sB at hg;cases p with
  |int i=>
   dsimp only at hg;split at hg
   ·rename_i j t e;rw[aB hg];exact Ke (lO X Gm e)
   ·cases hg
  |tup xs=>
   dsimp only at hg;obtain⟨ys,e1,hg⟩:=any_some hg;obtain⟨a,e2,hg⟩:=any_some hg;obtain⟨o,e3,hg⟩:=any_some hg;rw[aG,gT]at hg;rw[A3 e1];exact Kg (lO X Gm (jV e2)) e3 hg.1 hg.2
  |_=>cases hg
 |tab D=>
  obtain⟨a,e2,hg⟩:=any_some (show(refOf (PySem.W.nsIn K mainGlobals x)).any _=true from hg);obtain⟨o,e3,hg⟩:=any_some hg;exact⟨a,lO X Gm (jV e2),Kf e3 hg⟩
 |fn i=>
  obtain⟨r,e,hg⟩:=any_some (show(R[i]?).any _=true from hg);rw[aG]at hg;refine⟨r,e,?_⟩;rw[mH e,←aB hg.2];have:=(pk (hR i r e)).1;unfold ky at this;rw[ag hg.1]at this;exact lO X Gm this
 |blt=>exact PySem.W.mg_none_of X Gm (si (show decide _=true from hg))
 |cls=>
  obtain⟨C,e2,hg⟩:=any_some (show(refOf (PySem.W.nsIn K mainGlobals x)).any _=true from hg);exact⟨C,lO X Gm (jV e2),hg⟩
 |own i=>
  obtain⟨r,e,hg⟩:=any_some (show(R[i]?).any _=true from hg);simp only[aG,kn]at hg;obtain⟨g1,g2,g3,g4⟩:=hg;obtain⟨C,e2,g4⟩:=any_some g4;rw[aG]at g4;rw[aB g3];have p:=pk (hR i r e);have hw:=p.1;unfold ky at hw;rw[g1,av (by decide),e2,Option.bind_some,aB g2]at hw;refine⟨r,C,e,lO X Gm (jV e2),jV e2,?_⟩;rw[mH e];exact⟨g4.1,hw,p.2.2.2,g4.2⟩
theorem A4{h:Heap}{mg:Str->Option Value}(X:K.In h)(Gm:h.Ns mainGlobals mg)(hR:∀(i:Nat)(r:ax),R[i]?=some r->fT K own r=true):∀{G:List (Str×GV)},(G.all fun y=>gB K own R y.1 y.2)=true->vq K mg R (jY K own R) G
 |[],_=>True.intro
 |y::G,hg=>by
  rw[List.all_cons,aG]at hg;exact⟨Kq X Gm hR hg.1,A4 X Gm hR hg.2⟩
structure A5(K:PySem.W.Frag)(own:Str)(R:List ax)(G:List (Str×GV))(ats:List Str)(me:List (Str×Nat)):Prop where
 chk:kA K own R G ats me=true
 obs:kz K own R=iJ R
theorem Kr{P:Program}{w:World}{mg:Str->Option Value}{h base:Heap}{G:List (Str×GV)}{mt:List (Nat×Nat)}{rs:List Nat}{ats:List Str}{me:List (Str×Nat)}{wf fuel:Nat}
  (H:A5 K own R G ats me) (X:K.In h) (Gm:h.Ns mainGlobals mg)
  (mI:∀(i:Nat)(r:ax),R[i]?=some r->∀(kV doc pm:Value)(an:Option Addr)(cdv ct:Value)(us:List Value),us.length=r.ps.length->bindArgs (PySem.W.fnOf r.name r.qual (kr r.st) (fR r.st) (cL r.st) .none kV doc pm an cdv ct) { pos:=us }=pure (r.ps.zip us))
  (i8:∀(i:Nat)(r:ax),R[i]?=some r->kL r.N r.ps (cL r.st)/\r.d.np=r.ps.length/\r.d.nl=r.N.length/\i6 fuel ⟨r.N,(cL r.st).names,G,mt,rs,own,ats,me⟩ (fR r.st)=some r.d.body)
  (n i:Nat) (r:ax) (hr:R[i]?=some r):bZ P w K mg base (cD P w) (2*n) (jY K own R i) (lj K own R i) r.ps (dS K mg (af (R.map (·.d)) wf n) i r.ps.length):=by
 obtain⟨h1,h2⟩:=H;unfold kA at h1;rw[aG,aG]at h1;obtain⟨hf,hg,hc⟩:=h1;have hR:∀(i:Nat)(r:ax),R[i]?=some r->fT K own r=true:=fun i r e=>gW.mp hf r (jm e);have hF:∀(i:Nat)(r:ax),R[i]?=some r->kM K r.name r.qual r.st (jY K own R i) (lj K own R i):=fun i r e=>by
  unfold lj;rw[mH e];refine A2 (hR i r e) ?_;have:=congrArg (fun l=>l[i]?) h2;unfold kz iJ at this;simp only[bG,e,Option.map_some,bT]at this;exact this
 have hG:=A4 X Gm hR hg;have hcl:∀C,PySem.W.nsIn K mainGlobals own=some (some (.ref C))->(ats≠[]\/me≠[])->jC K C/\(∀f∈ats,PySem.W.findIn K (.ref C) f=some none)/\∀y∈me,∃r,R[y.2]?=some r/\(r.name==r.qual)=false/\(r.name==y.1)=true:=fun C e hne=>by
  unfold nk at hc;rw[gU]at hc;rcases hc with hc|hc
  ·rw[aG,xy,xy]at hc;rcases hne with z|z
   ·exact absurd hc.1 z
   ·exact absurd hc.2 z
  ·obtain⟨C',e',hc⟩:=any_some hc;have:=(jV e').symm.trans e;cases this;simp only[aG,gT]at hc;obtain⟨⟨⟨c1,c2⟩,c3,c4⟩,c5,c6⟩:=hc;refine⟨⟨c1,c2,c3,c4⟩,fun f hf=>si (gW.mp c5 f hf),fun y hy=>?_⟩;obtain⟨r,e1,e2⟩:=any_some (gW.mp c6 y hy);rw[aG,kn]at e2;exact⟨r,e1,e2.1,e2.2⟩
 refine AY (R:=R) (G:=G) (mt:=mt) (rs:=rs) (own:=own) (ats:=ats) (me:=me) (wf:=wf) (fuel:=fuel) (ad:=jY K own R) (fds:=lj K own R) (fun i r e=>⟨hF i r e,(hF i r e).binds (mI i r e)⟩) i8 (fun x p h=>li hG h) (fun x h=>li hG h) (fun x D h=>li hG h) (fun x h=>li hG h) (fun x i h=>li hG h) (fun x i h=>li hG h) (fun f hf C e=>?_) (fun m j hm=>?_) n i r hr
 ·obtain⟨c1,c2,_⟩:=hcl C e (.inl (xz hf));exact⟨c1,c2 f hf⟩
 ·have hy:=pV hm;have key:∃r,R[j]?=some r/\(r.name==r.qual)=false/\(r.name==m)=true:=by
   unfold nk at hc;rw[gU]at hc;rcases hc with hc|hc
   ·rw[aG,xy,xy]at hc;rw[hc.2]at hy;cases hy
   ·obtain⟨C',e',_⟩:=any_some hc;obtain⟨_,_,c3⟩:=hcl C' (jV e') (.inr (xz hy));exact c3 _ hy
  obtain⟨r',e1,e2,e3⟩:=key;refine⟨r',e1,fun C e=>?_⟩;obtain⟨c1,_,_⟩:=hcl C e (.inr (xz hy));have p:=pk (hR j r' e1);have hw:=p.1;unfold ky at hw;have er:refOf (PySem.W.nsIn K mainGlobals own)=some C:=by rw[e];rfl
  rw[e2,av (by decide),er,Option.bind_some,aB e3]at hw;rw[mH e1];exact⟨c1,hw,p.2.2.2,p.2.2.1⟩
end
end Q
namespace Q
open PySem PySem.Spec PyProof.Rows L2 PySem.SeqAt
noncomputable def A6(n:Nat)(own:Str)(R:List ax)(G:List (Str×GV))(ats:List Str)(me:List (Str×Nat)):PySem.W.Hook where
 α:=Bool×List (Option FuncData)
 obs s:=(kA (dL n s.heap) own R G ats me,kz (dL n s.heap) own R)
 val _:=(true,iJ R)
 says _ h:=∃K:PySem.W.Frag,K.In h/\A5 K own R G ats me
 of _ s e:=⟨dL n s.heap,Kp,⟨congrArg Prod.fst e,congrArg Prod.snd e⟩⟩
 keeps _ _ _:=fun⟨K,X,H⟩ k=>⟨K,X.keeps k,H⟩
theorem Ks{l:PySem.W.OpenLaw}{q:Program}{loose:List Str}{XP:(Str->Option Value)->Heap->Prop}{d:DefRec}{own:Str}{R:List ax}{G:List (Str×GV)}{ats:List Str}{me:List (Str×Nat)}{mt:List (Nat×Nat)}{rs:List Nat}{N wf fuel dep iL:Nat}{rL:ax}{x:Str}
  (hn:l.most=some 63) (hdf:d.params.defaults=[]) (hr:R[iL]?=some rL) (hq:(rL.name==rL.qual)=true) (hnm:rL.name=d.name) (hps:rL.ps=[x]) (hroom:bj (2*dep) callerA)
  (mI:∀(i:Nat)(r:ax),R[i]?=some r->∀(kV doc pm:Value)(an:Option Addr)(cdv ct:Value)(us:List Value),us.length=r.ps.length->bindArgs (PySem.W.fnOf r.name r.qual (kr r.st) (fR r.st) (cL r.st) .none kV doc pm an cdv ct) { pos:=us }=pure (r.ps.zip us))
  (i8:∀(i:Nat)(r:ax),R[i]?=some r->kL r.N r.ps (cL r.st)/\r.d.np=r.ps.length/\r.d.nl=r.N.length/\i6 fuel ⟨r.N,(cL r.st).names,G,mt,rs,own,ats,me⟩ (fR r.st)=some r.d.body)
  (lt:∀ns:List Int,ns.length<=63->∃S',af (R.map (·.d)) wf dep iL [.lst (ns.map PV.int)] []=.ok (.bl true) S') :
  PySem.W.WalkO q loose XP (A6 N own R G ats me).says l.row.toRowW d [] (fun f vs=>PySem.call f vs):=by
 refine Att.attach_call hn hdf fun w s0 s1 mg mb fa o pm cd doc a vs ns GG Y ho hd hcd hmg hobj hints hlen hg=>?_;obtain⟨K,KX,HO⟩:=Y;have hsz:sizeLine=16777216:=cy;have gm:=GG.T.g;have h1:=HO.chk;unfold kA at h1;rw[aG]at h1;have hB:fT K own rL=true:=gW.mp h1.1 rL (jm hr);have hw:=(pk hB).1;unfold ky at hw;rw[ag hq,hnm]at hw;have ea:=hmg.symm.trans (lO KX gm hw);obtain rfl:fa=dM K own rL:=by cases ea;rfl
 have hF:=fun base:Heap=>(Kr (P:=l.prog) (w:=w) (base:=base) (wf:=wf) HO KX gm mI i8 dep iL rL hr).imp Ki;have hfun:kM K rL.name rL.qual rL.st (dM K own rL) (lj K own R iL):=by
  unfold lj;rw[mH hr];refine A2 hB ?_;have:=congrArg (fun l=>l[iL]?) HO.obs;unfold kz iJ at this;simp only[bG,hr,Option.map_some,bT]at this;exact this
 have hb:∀(s:Shared)(u:Value),BindsTo s (lj K own R iL) ⟨[u],[]⟩ [(x,u)]:=fun s u=>by
  obtain⟨oc,od,kV,doc,pm,an,cdv,ct,osl,e,_,_⟩:=hfun.ex;refine .of_eq ?_;rw[e,mI iL rL hr kV doc pm an cdv ct [u] (by rw[hps];rfl),hps];rfl
 rw[hps,mH hr]at hF;exact ze KX gm GG.T.b GG.T.builtins GG.T.nolimit hg hobj hints (by omega) hroom (fun base _ _=>hF base) hb (fun H hO hS=>let ⟨S',h⟩:=lt ns hlen;Kj hS h) fun H e s'=>Kk H s1 e s'
end Q
namespace Q
open PySem L2
theorem bL(S:aa):bw S none=true:=by simp only[bw]
theorem i9{f:Ro->aa->ac Fl}{tg:Tg}{ck:Option (Nat×List PV)}(J:Nat->Ro->aa->Prop):∀(xs:List PV)(k:Nat),
  (∀(i:Nat) x ro S,xs[i]?=some x->J (k+i) ro S->bw S ck=true/\∃ro1 fl S1,bx tg x ro=some ro1/\f ro1 S=.ok fl S1/\∃ro2,(fl=.next ro2\/fl=.cnt ro2)/\J (k+i+1) ro2 S1) ->
  (∀ro S,J (k+xs.length) ro S->bw S ck=true)->∀ro S,J k ro S->∃ro' S',ce f tg ck xs ro S=.ok (.next ro') S'/\J (k+xs.length) ro' S'
 |[],k,h,he,ro,S,j=>⟨ro,S,by simp only[ce];rw[ag (he ro S j)],j⟩
 |x::xs,k,h,he,ro,S,j=>by
  obtain⟨c,ro1,fl,S1,h1,h2,ro2,h3,h4⟩:=h 0 x ro S rfl j;obtain⟨ro',S',h5,h6⟩:=i9 J xs (k+1) (fun i y ro S hy j=>by
   have e:k+1+i=k+(i+1):=by omega
   rw[e]at j ⊢;exact h (i+1) y ro S (by simpa using hy) j) (fun ro S j=>he ro S (by
   have e:k+1+xs.length=k+(x::xs).length:=by simp only[List.length_cons];omega
   rw[←e];exact j)) ro2 S1 h4
  refine⟨ro',S',?_,by
   have e:k+1+xs.length=k+(x::xs).length:=by simp only[List.length_cons];omega
   rw[←e];exact h6⟩
  simp only[ce];rw[ag c,h1];dsimp only;rw[h2,ac.andF_ok];rcases h3 with rfl|rfl<;>exact h5
theorem A7{f:Ro->aa->ac Fl}{tg:Tg}{S:aa}(J:Nat->Ro->Prop)(xs:List PV)
  (h:∀(i:Nat) x ro,xs[i]?=some x->J i ro->∃ro1 ro2,bx tg x ro=some ro1/\(f ro1 S=.ok (.next ro2) S\/f ro1 S=.ok (.cnt ro2) S)/\J (i+1) ro2) {ro:Ro}(h0:J 0 ro):∃ro',ce f tg none xs ro S=.ok (.next ro') S/\J xs.length ro':=by
 obtain⟨ro',S',h1,h2,rfl⟩:=i9 (f:=f) (tg:=tg) (ck:=none) (fun i ro S'=>J i ro/\S'=S) xs 0 (fun i x ro S' hx ⟨j,e⟩=>by
  subst e;rw[gX]at j ⊢;obtain⟨ro1,ro2,a,b,c⟩:=h i x ro hx j;rcases b with b|b
  ·exact⟨bL _,ro1,_,_,a,b,ro2,.inl rfl,c,rfl⟩
  ·exact⟨bL _,ro1,_,_,a,b,ro2,.inr rfl,c,rfl⟩) (fun _ _ _=>bL _) ro S ⟨h0,rfl⟩
 rw[gX]at h2;exact⟨ro',h1,h2⟩
theorem pp{f:Ro->aa->ac PV}{tg:Tg}{S:aa}(g:PV->PV)(Q:Ro->Prop):∀(xs:List PV),(∀x∈xs,∀ro,Q ro->∃ro1,bx tg x ro=some ro1/\f ro1 S=.ok (g x) S/\Q ro1)->∀ro,Q ro->bW f tg none xs ro S=.ok (xs.map g) S
 |[],_,ro,_=>by simp only[bW];rw[ag (bL S)];rfl
 |x::xs,h,ro,q=>by
  obtain⟨ro1,h1,h2,h3⟩:=h x bK ro q;simp only[bW];rw[ag (bL S),h1];dsimp only;rw[h2,ac.bind_ok,pp g Q xs (fun y hy=>h y (bq _ hy)) ro1 h3];rfl
theorem Kt(S:aa):oR S S:=fun i o h e=>.inl e
theorem ba{S:aa}{p:PV}(h:below S.length p=true):bX S S p=.ok p S:=by
 unfold bX;rw[ag ⟨Kt S,aF _⟩,ag h,m_]
theorem vr{S S2:aa}{p:PV}(h:below S.length p=true):bX S (S++S2) p=.ok p S:=by
 unfold bX;rw[ag ⟨fun i o hi e=>.inl (by rwa [dI hi]at e),by simp⟩,ag h,List.take_left]
theorem fG(k:Nat)(i:Int):below k (.int i)=true:=by simp only[below]
theorem vt(k:Nat)(i:Bool):below k (.bl i)=true:=by simp only[below]
theorem jZ(k:Nat):below k .non=true:=by simp only[below]
theorem lm(k:Nat):∀xs:List Int,bz k (xs.map PV.int)=true
 |[]=>by simp only[ez,bz]
 |x::xs=>by simp only[aZ,bz,fG,lm k xs,gY]
theorem gC(k:Nat)(xs:List Int):below k (.tup (xs.map PV.int))=true:=by simp only[below,lm]
theorem A8{D:List fy}{wf n f:Nat}{d:fy}{args:List PV}{S:aa}(hd:D[f]?=some d)(hl:args.length=d.np) :
  af D wf (n+1) f args S=(match ar (af D wf n) wf d.body (args.map some++List.replicate (d.nl-d.np) none) S with
     |.ok (.ret p) S1=>bX S S1 p
     |.ok (.next _) S1=>bX S S1 .non
     |.ok _ _=>.bad
     |.exn c S1=>jN S S1 c
     |.bad=>.bad):=by
 rw[af,hd];dsimp only;rw[ag hl]<;>rfl
theorem aO{D:List fy}{wf n f:Nat}{d:fy}{args:List PV}{S S1:aa}{p:PV}(hd:D[f]?=some d)(hl:args.length=d.np)
  (h:ar (af D wf n) wf d.body (args.map some++List.replicate (d.nl-d.np) none) S=.ok (.ret p) S1):af D wf (n+1) f args S=bX S S1 p:=by
 rw[A8 hd hl,h]
theorem cu{S:aa}{i j:Int}(h:(-(2 ^ 64)<i/\i<2 ^ 64)\/(-(2 ^ 64)<j/\j<2 ^ 64)):aN S .mul (.int i) (.int j)=.ok (.int (i*j)) S:=by simp only[aN,binI];rw[ag (show zr i j from h)]
theorem gD{S:aa}{i j:Int}(h:0<j):aN S .mod (.int i) (.int j)=.ok (.int (i%j)) S:=ag h
theorem i_{S:aa}{i j:Int}(h:0<j/\j<1073741824):aN S .fdiv (.int i) (.int j)=.ok (.int (i/j)) S:=ag h
theorem A9{S:aa}{i j:Int}:aN S .add (.int i) (.int j)=.ok (.int (i+j)) S:=rfl
theorem Ku{S:aa}{i j:Int}:aN S .sub (.int i) (.int j)=.ok (.int (i-j)) S:=rfl
theorem eq_int{S:aa}{i j:Int}:aK S .eq (.int i) (.int j)=.ok (.bl (i==j)) S:=rfl
theorem ne_int{S:aa}{i j:Int}:aK S .ne (.int i) (.int j)=.ok (.bl (!(i==j))) S:=rfl
theorem le_int{S:aa}{i j:Int}:aK S .le (.int i) (.int j)=.ok (.bl (decide (i<=j))) S:=rfl
theorem lt_int{S:aa}{i j:Int}:aK S .lt (.int i) (.int j)=.ok (.bl (decide (i<j))) S:=rfl
theorem Kv{S:aa}{b:Bool}:aJ S (.bl b)=some b:=rfl
theorem qt{α:Type}{xs:List α}{y:α}(h:xs.getLast?=some y):bn xs (-1)=some y:=by
 have hp:0<xs.length:=by
  cases xs with
  |nil=>cases h
  |cons _ _=>simp
 unfold bn eR;rw[av (by decide),ag (by omega)];have e:((-1:Int)+(xs.length:Int)).toNat=xs.length-1:=by omega
 rw[e];show xs[xs.length-1]?=some y;rw[←h,Dy]
theorem Kw(xs:List PV)(n:Nat):dB xs none (some (n:Int))=xs.take n:=by
 unfold dB;rw[HT.sIx_none,HT.sIx_nat];simp only[iC,Nat.sub_zero];rcases Nat.le_total n xs.length with h|h
 ·rw[Dz h]
 ·rw[Nat.min_eq_right h,qa h,qa (aF _)]
theorem Kx(xs:List PV)(n:Nat):dB xs (some (n:Int)) none=xs.drop n:=by
 unfold dB;rw[HT.sIx_none,HT.sIx_nat];rcases Nat.le_total n xs.length with h|h
 ·rw[Dz h,qa (by simp)]
 ·rw[Nat.min_eq_right h,List.drop_of_length_le h,List.drop_of_length_le (aF _)];simp
theorem vv{α:Type}(f:α->Bool):∀l:List α,fB (l.map fun x=>.bl (f x))=some (l.map f)
 |[]=>rfl
 |x::xs=>by simp only[aZ,fB,vv f xs]
theorem Ky{S:aa}{i:List PV}:aC S .tuple [.lst i]=.ok (.tup i) S:=rfl
theorem qT{S:aa}{i:List PV}:aC S .len [.tup i]=.ok (.int i.length) S:=rfl
theorem vw{S:aa}{i:List PV}:aC S .len [.lst i]=.ok (.int i.length) S:=rfl
theorem Kz{i:Int}:fc (.int i)=false:=rfl
theorem KA{i:List PV}:fc (.tup i)=false:=rfl
theorem KB :fc (.non)=true:=rfl
theorem OD{S:aa}{α:Type}{f:α->Bool}{l:List α}:aC S .all [.tup (l.map fun x=>.bl (f x))]=.ok (.bl (l.all f)) S:=by
 show(match fB (l.map fun x=>.bl (f x))with|some l=>ac.ok (PV.bl (l.all id)) S|none=>.bad)=_
 rw[vv];simp[rX]
theorem KC{S:aa}{α:Type}{f:α->Bool}{l:List α}:aC S .any [.lst (l.map fun x=>.bl (f x))]=.ok (.bl (l.any f)) S:=by
 show(match fB (l.map fun x=>.bl (f x))with|some l=>ac.ok (PV.bl (l.any id)) S|none=>.bad)=_
 rw[vv];simp[wX]
theorem A_{S:aa}{xs:List PV}:a8 S .seq [.tup xs]=some ⟨xs,none⟩:=rfl
theorem KD{S:aa}{xs:List PV}:a8 S .seq [.lst xs]=some ⟨xs,none⟩:=rfl
theorem ln{S M:aa}:(S++M)[S.length]?=M[0]?:=by rw[fP (aF _),wV]
theorem vy{S:aa}{xs:List PV}{e:PV}(h:xs.length<aj):gw (S++[.lst xs]) (.ref S.length) e=.ok .non (S++[.lst (xs++[e])]):=by
 unfold gw;simp only[ln,List.getElem?_cons_zero];rw[ag h];simp
theorem KE{S:aa}{xs:List PV}:cj (S++[.lst xs]) (.ref S.length)=.ok (.ref S.length) (S++[.lst xs]):=by simp only[cj,ln,List.getElem?_cons_zero]
theorem vA{rest:aa}{xs:List PV}:cj (.lst xs::rest) (.ref 0)=.ok (.ref 0) (.lst xs::rest):=by simp only[cj,List.getElem?_cons_zero]
theorem KF{S:aa}{xs:List PV}:aJ (S++[.lst xs]) (.ref S.length)=some (!xs.isEmpty):=by simp only[aJ,ln,List.getElem?_cons_zero]
theorem KG{S:aa}{xs:List PV}{k:Int}{y:PV}(h:bn xs k=some y):aU (S++[.lst xs]) (.ref S.length) (.int k)=.ok y (S++[.lst xs]):=by
 simp only[aU,aE,ln,List.getElem?_cons_zero,h]
theorem bA{S:aa}{xs:List PV}{k:Int}{y:PV}(h:bn xs k=some y):aU S (.tup xs) (.int k)=.ok y S:=by simp only[aU,aE,h]
theorem lr{S:aa}{xs:List PV}{k:Int}{y:PV}(h:bn xs k=some y):aU S (.lst xs) (.int k)=.ok y S:=by simp only[aU,aE,h]
theorem Ba{S:aa}{xs:List PV}:aC (S++[.lst xs]) .tuple [.ref S.length]=.ok (.tup xs) (S++[.lst xs]):=by
 show(match aE (S++[.lst xs]) (.ref S.length)with|some xs'=>ac.ok (PV.tup xs') (S++[MO.lst xs])|none=>.bad)=_
 simp only[aE,ln,List.getElem?_cons_zero]
theorem pq{S:aa}{xs ys:List PV}(h:xs.length+ys.length<=aj):aN S .add (.tup xs) (.tup ys)=.ok (.tup (xs++ys)) S:=ag h
theorem KH{S:aa}{xs:List PV}{i:Int}:hW S (.tup xs) .non (.int i)=.ok (.tup (dB xs none (some i))) S:=rfl
theorem Bb{S:aa}{xs:List PV}{i:Int}:hW S (.tup xs) (.int i) .non=.ok (.tup (dB xs (some i) none)) S:=rfl
theorem KI{xs:List PV}{k:Int}(h:0<=k):dB xs none (some k)=xs.take k.toNat:=by
 have:=Kw xs k.toNat
 rwa [Int.toNat_of_nonneg h]at this
theorem Bc{xs:List PV}{k:Int}(h:0<=k):dB xs (some k) none=xs.drop k.toNat:=by
 have:=Kx xs k.toNat
 rwa [Int.toNat_of_nonneg h]at this
theorem vB{S:aa}{xs:List PV}:aJ S (.tup xs)=some (!xs.isEmpty):=rfl
theorem Bd{S:aa}{xs:List PV}:aJ S (.lst xs)=some (!xs.isEmpty):=rfl
noncomputable def zs(k:Nat):List PV:=List.replicate k (.int 0)
theorem Be(k:Nat):(zs k).length=k:=by simp[zs]
theorem KJ(k:Nat):zs k++[.int 0]=zs (k+1):=by unfold zs;rw[List.replicate_succ']
theorem Bf(m:Nat):∀k,bz m (zs k)=true
 |0=>by simp[zs,bz]
 |k+1=>by
  have:=Bf m k;unfold zs at this ⊢;simp only[List.replicate_succ,bz,below,this,gY]
theorem KL{a b:MO}{rest:aa}{p:PV}(hb:b.below (rest.length+1)=true)(hp:below (rest.length+1) p=true):bX (a::rest) (b::rest) p=.ok p (b::rest):=by
 have ho:oR (a::rest) (b::rest):=fun i o hi e=>by
  cases i with
  |zero=>simp at e;subst e;exact .inr hb
  |succ i=>left;simpa using e
 unfold bX;rw[ag ⟨ho,aF _⟩,ag (show below (a::rest).length p=true from hp)];simp
theorem vC{k l:Nat}{rest:aa}{p:PV}(hp:below (rest.length+1) p=true):bX (.lst (zs k)::rest) (.lst (zs l)::rest) p=.ok p (.lst (zs l)::rest):=
 KL (by simp only[MO.below,MO.vals,Bf]) hp
theorem Bg{k:Nat}{rest:aa}(h:k<aj):gw (.lst (zs k)::rest) (.ref 0) (.int 0)=.ok .non (.lst (zs (k+1))::rest):=by
 unfold gw;simp only[List.getElem?_cons_zero];rw[ag (by rw[Be];exact h),List.set_cons_zero,KJ]
theorem Bh{k:Nat}{rest:aa}:aC (.lst (zs k)::rest) .len [.ref 0]=.ok (.int k) (.lst (zs k)::rest):=by
 show(match aE (.lst (zs k)::rest) (.ref 0)with|some xs=>ac.ok (PV.int xs.length) (.lst (zs k)::rest)|none=>.bad)=_
 simp only[aE,List.getElem?_cons_zero,Be]
theorem KM{ns:List Int}{k:Int}(h0:0<=k)(h1:k<ns.length):∃c,bn (ns.map PV.int) k=some (.int c):=by
 unfold bn eR;rw[ag h0,ag (by rw[aw];exact h1)];refine⟨ns[k.toNat]'(by omega),?_⟩;show(ns.map PV.int)[k.toNat]?=_;rw[bG,a6 (by omega)];rfl
theorem KN{xs:List PV}{k:Int}(h0:0<=k)(h1:k<xs.length):∃x∈xs,bn xs k=some x:=by
 unfold bn eR;rw[ag h0,ag h1];refine⟨xs[k.toNat]'(by omega),lP _,?_⟩;show xs[k.toNat]?=_;rw[a6 (by omega)]
theorem qU:∀(xs ys:List Int),fU (xs.map PV.int) (ys.map PV.int)=(xs==ys)
 |[],[]=>rfl
 |[],_::_=>rfl
 |_::_,[]=>rfl
 |x::xs,y::ys=>by
  show((x==y)&&fU (xs.map PV.int) (ys.map PV.int))=_;rw[qU xs ys];rfl
theorem iq(d:Nat):∀(xs:List Int),a_ (xs.map PV.int) d=true
 |[]=>rfl
 |x::xs=>iq d xs
theorem KO{S:aa}{xs ys:List Int}:aK S .ne (.tup (xs.map PV.int)) (.tup (ys.map PV.int))=.ok (.bl (!(xs==ys))) S:=by
 rw[←qU];exact ag (gR.mpr ⟨iq 59 xs,iq 59 ys⟩)
theorem eJ{S:aa}{j:Int}(h:-(2 ^ 62)<=j/\j<2 ^ 62):a8 S .range [.int j]=some ⟨bI 0 j.toNat,none⟩:=by simp only[a8,h8,h_];rw[ag (show ma j from h)]
theorem ja{lo:Int}{n:Nat}:(bI lo n).length=n:=by simp[bI]
theorem lu{F:Nat->List PV->aa->ac PV}{wf:Nat}{b:List Sx}:∀{a:List Sx}{ro ro1:Ro}{S S1:aa},ar F wf a ro S=.ok (.next ro1) S1->ar F wf (a++b) ro S=ar F wf b ro1 S1
 |[],ro,ro1,S,S1,h=>by
  rw[mh]at h;cases h;rfl
 |s::ss,ro,ro1,S,S1,h=>by
  rw[k6]at h;rw[List.cons_append,k6];cases e:aY F wf s ro S with
  |bad=>rw[e]at h;cases h
  |exn c S2=>rw[e]at h;cases h
  |ok fl S2=>
   rw[e,ac.andF_ok]at h;rw[ac.andF_ok];cases fl with
   |next ro2=>exact lu h
   |brk ro2=>cases h
   |cnt ro2=>cases h
   |ret p=>cases h
theorem j5{xs:List PV}{i:Nat}{x:PV}(h:xs[i]?=some x):bn xs (i:Int)=some x:=by
 have hi:i<xs.length:=(bF.mp h).1;unfold bn eR;rw[ag (by omega),ag (by omega)];show xs[(i:Int).toNat]?=_;rw[Int.toNat_natCast];exact h
end Q
namespace Q
open PySem L2
theorem Bj{f:Ro->aa->ac PV}{tg:Tg}{S:aa}{ck:Option (Nat×List PV)}(hck:bw S ck=true)(g:PV->PV)(Q:Ro->Prop):∀(xs:List PV),(∀x∈xs,∀ro,Q ro->∃ro1,bx tg x ro=some ro1/\f ro1 S=.ok (g x) S/\Q ro1)->∀ro,Q ro->bW f tg ck xs ro S=.ok (xs.map g) S
 |[],_,ro,_=>by simp only[bW];rw[ag hck];rfl
 |x::xs,h,ro,q=>by
  obtain⟨ro1,h1,h2,h3⟩:=h x bK ro q;have ih:=Bj hck g Q xs (fun y hy=>h y (bq _ hy)) ro1 h3;simp only[bW];rw[ag hck,h1];dsimp only;rw[h2,ac.bind_ok,ih];rfl
theorem KP(S:aa)(p:PV):bw S (e9 S p)=true:=by
 cases p with
 |ref n=>
  simp only[e9];cases h:S[n]? with
  |none=>simp only[bw]
  |some o=>
   cases o with
   |lst xs=>simp[bw,h]
   |_=>simp only[bw]
 |_=>simp only[e9,bw]
theorem ints_map:∀l:List Int,de (l.map PV.int)=some l
 |[]=>rfl
 |x::l=>by simp only[aZ,de,ints_map l]
theorem vD{S:aa}{l:List Int}:aC S .sum [.lst (l.map PV.int)]=.ok (.int l.sum) S:=by simp only[aC,dP,aE,ints_map]
theorem Bk{S:aa}{xs ys:List PV}(h:xs.length+ys.length<=aj):kX (S++[.lst xs]) (.ref S.length) (.tup ys)=.ok .non (S++[.lst (xs++ys)]):=by
 simp only[kX,aE,ln,List.getElem?_cons_zero];rw[ag h];congr 1;simp
theorem KQ{S:aa}{xs:List PV}:aC S .listN [.tup xs]=.ok (.ref S.length) (S++[.lst xs]):=rfl
theorem KR{S:aa}{xs:List PV}:aE (S++[.lst xs]) (.ref S.length)=some xs:=by simp only[aE,ln,List.getElem?_cons_zero]
theorem KS{S:aa}{p:PV}{xs:List PV}{k:Int}(h:aE S p=some xs)(hk:0<=k/\k<4611686018427387904):a8 S .enumK [p,.int k]=some ⟨dm k xs,e9 S p⟩:=by
 simp only[a8,h8,h_];rw[ag hk,h]
theorem Bl:∀(xs:List PV)(k:Int)(y:PV),y∈dm k xs->∃i x,y=.tup [.int i,x]/\x∈xs/\k<=i/\i<k+xs.length
 |[],_,_,h=>by simp[dm]at h
 |x::xs,k,y,h=>by
  simp only[dm,aP]at h;rcases h with rfl|h
  ·exact⟨k,x,rfl,bK,iE _,by simp only[List.length_cons];omega⟩
  ·obtain⟨i,z,h1,h2,h3,h4⟩:=Bl xs (k+1) y h;exact⟨i,z,h1,bq _ h2,by omega,by simp only[List.length_cons];omega⟩
noncomputable def mJ:Int->List Int->Int
 |_,[]=>0
 |k,x::xs=>k*x+mJ (k+1) xs
noncomputable def lv:Int->List Int->List Int
 |_,[]=>[]
 |k,x::xs=>k*x::lv (k+1) xs
theorem Bm:∀(xs:List Int)(k:Int),(lv k xs).sum=mJ k xs
 |[],_=>rfl
 |x::xs,k=>by simp only[lv,mJ,List.sum_cons,Bm xs]
theorem Bo:∀(xs:List Int)(k:Int),(lv k xs).length=xs.length
 |[],_=>rfl
 |x::xs,k=>by simp only[lv,List.length_cons,Bo xs]
noncomputable def Bp:PV->PV
 |.tup [.int i,.int j]=>.int (i*j)
 |p=>p
theorem Bq:∀(xs:List Int)(k:Int),(dm k (xs.map PV.int)).map Bp=(lv k xs).map PV.int
 |[],_=>rfl
 |x::xs,k=>by simp only[aZ,dm,lv,Bq xs];rfl
noncomputable def dX(n:Int):List Int:=[n/256%256,n%256]
noncomputable def mK(n:Int)(ss:List Int):List Int:=dX n++[(ss.length:Int)]++ss.flatMap fun s=>dX (s+1000)
noncomputable def dE(n:Int)(ss:List Int):List Int:=mK n ss++dX (mJ 1 (mK n ss)%257)
theorem qV:∀ss:List Int,(ss.flatMap fun s=>dX (s+1000)).length=2*ss.length
 |[]=>rfl
 |s::ss=>by
  rw[List.flatMap_cons,en,qV ss,List.length_cons];show 2+2*ss.length=_;omega
theorem qW(n:Int)(ss:List Int):(mK n ss).length=3+2*ss.length:=by
 unfold mK;rw[en,qV,en];show 2+1+_=_;omega
theorem KU(n:Int)(ss:List Int):(dE n ss).length=5+2*ss.length:=by
 unfold dE;rw[en,qW];show _+2=_;omega
noncomputable def eK(row:List Int):Int:=row.getD 2 0
noncomputable def ir(row:List Int):Bool:=!decide ((row.length:Int)<5)&&(decide (eK row<=16)&&((row.length:Int)==5+2*eK row))
noncomputable def mL(row:List Int):Int:=row.getD 0 0*256+row.getD 1 0
noncomputable def dY(row:List Int):List Int:=(List.range (eK row).toNat).map fun k=>row.getD (3+2*k) 0*256+row.getD (3+2*k+1) 0-1000
noncomputable def qX(row:List Int):Bool:=ir row&&(!(dY row).any (fun s=>decide (1000<s))&&(dE (mL row) (dY row)==row))
theorem qY{row:List Int}:ir row=true↔5<=row.length/\eK row<=16/\(row.length:Int)=5+2*eK row:=by
 unfold ir;simp only[aG,kn,DB,gT,jk];omega
theorem gt_int{S:aa}{i j:Int}:aK S .gt (.int i) (.int j)=.ok (.bl (decide (j<i))) S:=rfl
noncomputable def j7(f:Int->PV):PV->PV
 |.int i=>f i
 |p=>p
theorem Br{f:Int->PV}{i:Int}:j7 f (.int i)=f i:=rfl
theorem KW{f:Int->PV}{l:List Int}:(l.map PV.int).map (j7 f)=l.map f:=by rw[cK];rfl
theorem KY{f:Int->Int}{n:Nat}:(bI 0 n).map (j7 fun i=>.int (f i))=((List.range n).map fun(k:Nat)=>f (k:Int)).map PV.int:=by
 unfold bI;rw[cK,cK];congr 1;funext k;show PV.int (f (0+(k:Int)))=PV.int (f k);rw[qc]
theorem KZ{n:Nat}{x:PV}(h:x∈bI 0 n):∃k:Nat,k<n/\x=.int k:=by
 unfold bI at h;obtain⟨k,hk,rfl⟩:=bc.mp h;exact⟨k,gh.mp hk,by rw[qc]⟩
theorem vE{k:Nat}{a:Int}{xs:List Int}:below k (.tup [.int a,.tup (xs.map PV.int)])=true:=by simp only[below,bz,lm,gY]
end Q
namespace Q
open PySem L2
theorem eq_str{S:aa}{x y:Str}(hx:PyData.strOk x=true)(hy:PyData.strOk y=true):aK S .eq (.str x) (.str y)=.ok (.bl (x==y)) S:=ag (gR.mpr ⟨hx,hy⟩)
theorem Bs:∀(ss:List Int)(k:Nat)(s:Int),ss[k]?=some s->(ss.flatMap fun s=>dX (s+1000))[2*k]?=some ((s+1000)/256%256)/\(ss.flatMap fun s=>dX (s+1000))[2*k+1]?=some ((s+1000)%256)
 |[],k,s,h=>by simp at h
 |x::ss,0,s,h=>by
  simp at h;subst h;exact⟨rfl,rfl⟩
 |x::ss,k+1,s,h=>by
  obtain⟨h1,h2⟩:=Bs ss k s (by simpa using h);rw[List.flatMap_cons];have e1:2*(k+1)=2*k+2:=by omega
  have e2:2*(k+1)+1=2*k+1+2:=by omega
  rw[e2,e1];have z:∀(l:List Int)(j:Nat),(dX (x+1000)++l)[j+2]?=l[j]?:=fun l j=>rfl;rw[z,z];exact⟨h1,h2⟩
noncomputable def gE(ss:List Int):Prop:=∀s∈ss,-1000<=s/\s<=1000
theorem Bt(n:Int)(ss:List Int):eK (dE n ss)=ss.length:=rfl
theorem K0{n:Int}{ss:List Int}(h0:0<=n)(h1:n<65536):mL (dE n ss)=n:=by
 show n/256%256*256+n%256=n;omega
theorem K1{n:Int}{ss:List Int}{k:Nat}{s:Int}(h:ss[k]?=some s):(dE n ss).getD (3+2*k) 0=(s+1000)/256%256/\(dE n ss).getD (3+2*k+1) 0=(s+1000)%256:=by
 obtain⟨h1,h2⟩:=Bs ss k s h;have hk:k<ss.length:=(bF.mp h).1;have hf:=qV ss;have z:∀j,j<2*ss.length->(dE n ss)[3+j]?=(ss.flatMap fun s=>dX (s+1000))[j]?:=fun j hj=>by
  unfold dE;rw[dI (by rw[qW];omega)];unfold mK;rw[fP (by show 3<=3+j;omega)];congr 1;show 3+j-3=j;omega
 rw[cJ,cJ,z _ (by omega),Nat.add_assoc,z _ (by omega),h1,h2];exact⟨rfl,rfl⟩
theorem K2{n:Int}{ss:List Int}(h:gE ss):dY (dE n ss)=ss:=by
 unfold dY;rw[Bt,Int.toNat_natCast];refine xi fun k=>?_;rw[bG];by_cases hk:k<ss.length
 ·rw[lQ hk];have e:=a6 hk;obtain⟨h1,h2⟩:=K1 (n:=n) e;rw[e,Option.map_some,h1,h2];have:=h ss[k] (lP hk);congr 1;omega
 ·rw[nh (by simpa using hk),nh (by omega)];rfl
theorem K3{n:Int}{ss:List Int}(h:ss.length<=16):ir (dE n ss)=true:=by
 rw[qY,KU,Bt];omega
theorem K4{ss:List Int}(h:gE ss):(ss.any fun s=>decide (1000<s))=false:=by
 rw[rQ];intro s hs;have:=h s hs;simp;omega
theorem K5{n:Int}{ss:List Int}(h0:0<=n)(h1:n<65536)(hl:ss.length<=16)(h:gE ss):qX (dE n ss)=true:=by
 unfold qX;rw[K3 hl,K2 h,K0 h0 h1,K4 h];simp
end Q
namespace Q
open PySem L2
theorem ne_str{S:aa}{x y:Str}(hx:PyData.strOk x=true)(hy:PyData.strOk y=true):aK S .ne (.str x) (.str y)=.ok (.bl (!(x==y))) S:=ag (gR.mpr ⟨hx,hy⟩)
end Q
namespace Q
open PySem L2
theorem vF{f:Ro->aa->ac PV}{tg:Tg}{rest:aa}{c:Nat}(P:PV->Prop)(Q:Ro->Prop):∀(xs:List PV)(k:Nat),k+c*xs.length<aj ->
  (∀x∈xs,∀ro k,k+c<aj->Q ro->∃ro1 p l,bx tg x ro=some ro1/\f ro1 (.lst (zs k)::rest)=.ok p (.lst (zs l)::rest)/\P p/\l<=k+c/\Q ro1)->∀ro,Q ro ->
  ∃ps l,bW f tg none xs ro (.lst (zs k)::rest)=.ok ps (.lst (zs l)::rest)/\ps.length=xs.length/\(∀p∈ps,P p)/\l<=k+c*xs.length
 |[],k,_,_,ro,_=>⟨[],k,by simp only[bW];rw[ag (bL _)],⟨rfl,fun _ h=>by simp at h,p9 _ _⟩⟩
 |x::xs,k,hk,h,ro,q=>by
  have e:c*(x::xs).length=c*xs.length+c:=by rw[List.length_cons,Nat.mul_succ]
  obtain⟨ro1,p,l,h1,h2,h3,h4,h5⟩:=h x bK ro k (by rw[e]at hk;omega) q;obtain⟨ps,l2,g1,g2,g3,g4⟩:=vF P Q xs l (by rw[e]at hk;omega) (fun y hy=>h y (bq _ hy)) ro1 h5;refine⟨p::ps,l2,?_,by simp[g2],fun y hy=>?_,by rw[e];omega⟩
  ·simp only[bW];rw[ag (bL _),h1];dsimp only;rw[h2,ac.bind_ok,g1];rfl
  ·rcases aP.mp hy with rfl|z
   ·exact h3
   ·exact g3 y z
theorem Bu{P:Int->Prop}:∀(ps:List PV),(∀p∈ps,∃i:Int,p=.int i/\P i)->∃l:List Int,ps=l.map PV.int/\∀i∈l,P i
 |[],_=>⟨[],rfl,fun _ h=>nomatch h⟩
 |p::ps,h=>by
  obtain⟨i,rfl,hi⟩:=h p bK;obtain⟨l,rfl,hl⟩:=Bu ps fun q hq=>h q (bq _ hq);exact⟨i::l,rfl,fun j hj=>by
   rcases aP.mp hj with rfl|z
   ·exact hi
   ·exact hl j z⟩
end Q
namespace Q
open PySem L2
theorem Bv{α:Type}:∀(ys:List α)(k:Nat),(iR ys)[k]?=ys[2*k]?
 |[],k=>by simp[iR]
 |[a],0=>by simp[iR]
 |[a],k+1=>by
  have e:2*(k+1)=2*k+1+1:=by omega
  rw[e];simp[iR]
 |a::b::l,0=>by simp[iR]
 |a::b::l,k+1=>by
  have e:2*(k+1)=2*k+1+1:=by omega
  rw[e];simp only[iR,List.getElem?_cons_succ];exact Bv l k
theorem K6{xs:List PV}{k:Nat}(h:k<=xs.length):dB xs (some (k:Int)) (some (-2))=(xs.drop k).take (xs.length-2-k):=by
 unfold dB;have e:HT.sIx xs.length xs.length (some (-2))=xs.length-2:=by
  show(if (-2:Int)<0 then ((-2:Int)+(xs.length:Int)).toNat else min (-2:Int).toNat xs.length)=_
  rw[ag (by decide)];omega
 rw[HT.sIx_nat,e,Dz h]
theorem lw{row:List Int}{k i:Nat}(hk:k<=row.length)(h:k+2*i+2<row.length):(iR (dB (row.map PV.int) (some (k:Int)) (some (-2))))[i]?=some (.int (row.getD (k+2*i) 0)):=by
 rw[Bv,K6 (by rw[aw];exact hk),aw,CY (by omega),List.getElem?_drop,bG,cJ,a6 (by omega)];rfl
noncomputable def TR(rs:List (List Int)):List PV:=rs.map fun r=>.tup (r.map PV.int)
theorem K7{a:List (List Int)}:(TR a).length=a.length:=by unfold TR;rw[aw]
end Q
namespace Q
open PySem L2
theorem K8:(([]:List PV).length<=aj)=True:=eq_true (by show 0<=aj;decide)
theorem K9{a:PV}:([a].length<=aj)=True:=eq_true (by show 1<=aj;decide)
theorem K_{a b:PV}:([a,b].length<=aj)=True:=eq_true (by show 2<=aj;decide)
theorem La{a b c:PV}:([a,b,c].length<=aj)=True:=eq_true (by show 3<=aj;decide)
theorem Lb{a b:PV}{i j:Nat}:([a,b].length=[i,j].length)=True:=eq_true rfl
theorem ge_int{S:aa}{i j:Int}:aK S .ge (.int i) (.int j)=.ok (.bl (decide (j<=i))) S:=rfl
theorem Lc{S:aa}{i:Int}:aC S .abs [.int i]=.ok (.int (if i<0 then -i else i)) S:=rfl
theorem Ld{S:aa}{i j:Int}:aC S .min2 [.int i,.int j]=.ok (.int (if j<i then j else i)) S:=rfl
theorem Le{S:aa}{i j:Int}:aC S .max2 [.int i,.int j]=.ok (.int (if j>i then j else i)) S:=rfl
theorem Lf{S:aa}{i j:Int}(h:-(2 ^ 62)<=i/\i<2 ^ 62)(g:-(2 ^ 62)<=j/\j<2 ^ 62):a8 S .range [.int i,.int j]=some ⟨bI i (j-i).toNat,none⟩:=by
 simp only[a8,h8,h_];rw[ag (show ma i/\ma j from⟨h,g⟩)]
theorem dF{α:Type}{f:Ro->aa->ac PV}{tg:Tg}{S:aa}(e g:α->PV)(Q:Ro->Prop):∀(l:List α),(∀a∈l,∀ro,Q ro->∃ro1,bx tg (e a) ro=some ro1/\f ro1 S=.ok (g a) S/\Q ro1)->∀ro,Q ro ->
  bW f tg none (l.map e) ro S=.ok (l.map g) S
 |[],_,ro,_=>by simp only[ez,bW];rw[ag (bL _)]
 |a::l,h,ro,q=>by
  obtain⟨ro1,h1,h2,h3⟩:=h a bK ro q;simp only[aZ,bW];rw[ag (bL _),h1];simp only[h2,ac.bind_ok,dF e g Q l (fun b hb=>h b (bq _ hb)) ro1 h3]
theorem vG{α:Type}{c f:Ro->aa->ac PV}{tg:Tg}{S:aa}(e g:α->PV)(p:α->Bool)(Q:Ro->Prop):∀(l:List α),(∀a∈l,∀ro,Q ro->∃ro1 q,bx tg (e a) ro=some ro1/\c ro1 S=.ok q S/\aJ S q=some (p a)/\f ro1 S=.ok (g a) S/\Q ro1)->∀ro,Q ro ->
  ia c f tg none (l.map e) ro S=.ok ((l.filter p).map g) S
 |[],_,ro,_=>by simp only[ez,ia];rw[ag (bL _)];rfl
 |a::l,h,ro,q=>by
  obtain⟨ro1,y,h1,h2,h3,h4,h5⟩:=h a bK ro q;have ih:=vG e g p Q l (fun b hb=>h b (bq _ hb)) ro1 h5;simp only[aZ,ia];rw[ag (bL _),h1];simp only[h2,ac.bind_ok,h3];cases hp:p a with
  |true=>simp only[h4,ac.bind_ok,ih,rS,hp,aL,aZ]
  |false=>simp only[ih,ac.bind_ok,rS,hp,eC,dj]
theorem lx{lo:Int}{n:Nat}:bI lo n=(List.range n).map fun(k:Nat)=>PV.int (lo+(k:Int)):=rfl
theorem getD_at{xs:List Int}{k:Nat}(h:k<xs.length):bn (xs.map PV.int) (k:Int)=some (.int (xs.getD k 0)):=by
 refine j5 ?_;rw[bG,cJ,a6 h];rfl
theorem Lg{rs:List (List Int)}{k:Nat}(h:k<rs.length):bn (TR rs) (k:Int)=some (.tup ((rs.getD k []).map PV.int)):=by
 refine j5 ?_;unfold TR;rw[bG,cJ,a6 h];rfl
theorem Lh{r:List Int}:[PV.tup (r.map PV.int)]=TR [r]:=rfl
noncomputable def dZ(rs:List (List Int))(k:Nat):Int:=(rs.map fun r=>r.getD k 0+1000).sum
noncomputable def bu(q:Nat)(rs:List (List Int)):List Int:=(List.range q).map fun k=>dZ rs k%2001-1000
noncomputable def jb(q:Nat)(rs:List (List Int))(t:List Int):List Int:=(List.range q).map fun k=>(t.getD k 0+1000-dZ rs k)%2001-1000
noncomputable def fZ(q:Nat)(rs:List (List Int)):Prop:=∀r∈rs,r.length=q/\gE r
theorem vH{a b:List (List Int)}{k:Nat}:dZ (a++b) k=dZ a k+dZ b k:=by
 unfold dZ;rw[kq,List.sum_append]
theorem Bw{r:List Int}{k:Nat}:dZ [r] k=r.getD k 0+1000:=by simp[dZ]
theorem Bx{q:Nat}{rs:List (List Int)}:(bu q rs).length=q:=by simp[bu]
theorem Li{q:Nat}{rs:List (List Int)}{t:List Int}:(jb q rs t).length=q:=by simp[jb]
theorem By{f:Nat->Int}{q k:Nat}(h:k<q):((List.range q).map f).getD k 0=f k:=by
 rw[cJ,bG,lQ h];rfl
theorem Lj{q k:Nat}{rs:List (List Int)}(h:k<q):(bu q rs).getD k 0=dZ rs k%2001-1000:=By h
theorem Lk{q k:Nat}{rs:List (List Int)}{t:List Int}(h:k<q):(jb q rs t).getD k 0=(t.getD k 0+1000-dZ rs k)%2001-1000:=By h
theorem Ll{r:List Int}(h:gE r){k:Nat}(hk:k<r.length):-1000<=r.getD k 0/\r.getD k 0<=1000:=by
 have e:r.getD k 0=r[k]:=by rw[cJ,a6 hk];rfl
 rw[e];exact h _ (lP hk)
theorem Lm{a b:List Int}{q:Nat}(ha:a.length=q)(hb:b.length=q)(h:∀k,k<q->a.getD k 0=b.getD k 0):a=b:=by
 refine xi fun k=>?_;by_cases hk:k<q
 ·have:=h k hk;rw[cJ,cJ,a6 (by omega),a6 (by omega)]at this;rw[a6 (by omega),a6 (by omega)];exact congrArg some this
 ·rw[nh (by omega),nh (by omega)]
theorem Ln{rs:List (List Int)}{i k:Nat}(h:i<rs.length):dZ rs k=dZ (rs.take i++rs.drop (i+1)) k+((rs.getD i []).getD k 0+1000):=by
 have e:rs.getD i []=rs[i]:=by rw[cJ,a6 h];rfl
 have e2:rs=rs.take i++([rs[i]]++rs.drop (i+1)):=by
  show rs=rs.take i++rs[i]::rs.drop (i+1);rw[←sd h,ke]
 conv=>lhs;rw[e2]
 rw[vH,vH,vH,Bw,e];omega
theorem getD_mem{rs:List (List Int)}{i:Nat}(h:i<rs.length):rs.getD i []∈rs:=by
 rw[cJ,a6 h];exact lP h
theorem Lo{q:Nat}{rs:List (List Int)}{i:Nat}(hs:fZ q rs)(h:i<rs.length):jb q (rs.take i++rs.drop (i+1)) (bu q rs)=rs.getD i []:=by
 obtain⟨h1,h2⟩:=hs _ (getD_mem h);refine Lm Li h1 fun k hk=>?_;have:=Ll h2 (show k<(rs.getD i []).length by omega);rw[Lk hk,Lj hk,Ln h];omega
end Q
namespace Q
open PySem L2
noncomputable def aV(w:Int×Int):PV:=.tup [.int w.1,.int w.2]
noncomputable def PR(ws:List (Int×Int)):List PV:=ws.map aV
noncomputable def bV(ws:List (Int×Int)):List Int:=ws.map fun w=>w.2-w.1
theorem Bz{ws:List (Int×Int)}:(PR ws).length=ws.length:=by unfold PR;rw[aw]
theorem qZ(k:Nat):∀ws:List (Int×Int),bz k (PR ws)=true
 |[]=>by simp only[PR,ez,bz]
 |w::ws=>by
  have:=qZ k ws;unfold PR at this;simp only[PR,aZ,bz,this,aV,below,gY]
theorem Lp(k:Nat)(xs:List Int):below k (.lst (xs.map PV.int))=true:=by simp only[below,lm]
theorem pr{i j:Nat}{a b:PV}{ro:Ro}:bx (.many [i,j]) (.tup [a,b]) ro=some ((ro.set i (some a)).set j (some b)):=by
 simp only[bx,Lb,aL,fE]
theorem vI{ws:List (Int×Int)}:(bV ws).length=ws.length:=by unfold bV;rw[aw]
noncomputable def pv(i:Int):Int:=if i<0 then -i else i
noncomputable def ly(ds:List Int):List Int:=(ds.zip (ds.drop 1)).map fun p=>pv (p.2-p.1)
noncomputable def vJ(t d:Int):Int:=t+d-(t+8)/16
noncomputable def vK(ds:List Int):Int:=(ly ds).foldl vJ 0
theorem Lq:∀ds:List Int,(ly ds).length=ds.length-1:=fun ds=>by
 unfold ly;rw[aw,xk,mY];omega
theorem Lr{ds:List Int}{i:Nat}(h:i+1<ds.length):(ly ds)[i]?=some (pv (ds.getD (i+1) 0-ds.getD i 0)):=by
 unfold ly;rw[bG,a6 (by rw[xk,mY];omega),List.getElem_zip];simp only[Option.map_some,List.getElem_drop];rw[cJ,cJ,a6 h,a6 (by omega)];simp only[Option.getD_some,Nat.add_comm 1 i]
theorem BA{α:Type}{l:List α}(h:l≠[]):∃a x,l=a++[x]:=⟨l.dropLast,l.getLast h,(List.dropLast_concat_getLast h).symm⟩
theorem Ls{l:List PV}{x:PV}:bn (l++[x]) (-1)=some x:=qt (by simp)
end Q
namespace Q
open PySem L2
noncomputable def fH(ds:List Int)(w:Int):Nat:=(ds.filter fun d=>decide (w<d)).length
noncomputable def q_(ds:List Int)(m:Nat):Int:=(iS ds).getD m 0
theorem Lu{ds:List Int}{w:Int}:fH ds w=ds.countP fun d=>decide (w<d):=by unfold fH;rw[List.countP_eq_length_filter]
theorem Lv{ds:List Int}{w:Int}:fH ds w<=ds.length:=by rw[Lu];exact List.countP_le_length
theorem Lw(ds:List Int):(iS ds).Perm ds:=wZ _ _
theorem Lx(ds:List Int):(iS ds).length=ds.length:=(Lw ds).length_eq
theorem Ly{S:aa}{l:List Int}:dO S (.lst (l.map PV.int))=some l:=by simp only[dO,iQ,ints_map]
theorem Lz{S:aa}{l:List Int}(h:l.length<64):aC S .sortedR [.lst (l.map PV.int)]=.ok (.lst ((iS l).map PV.int)) S:=by
 show jF iS S _=_;unfold jF;rw[Ly];dsimp only;rw[ag h]
theorem rc(k:Nat):∀xs:List PV,bz k xs=xs.all fun x=>below k x
 |[]=>by simp only[bz,List.all_nil]
 |x::xs=>by simp only[bz,List.all_cons,rc k xs]
theorem vL{S:aa}{x:PV}{q:Nat}(h:q<=1000):aN S .mul (.tup [x]) (.int q)=.ok (.tup (List.replicate q x)) S:=by
 simp only[aN,binI];rw[ag (show zt (q:Int) [x].length from⟨by omega,by omega,.inr (by show 0<1;decide),by rw[Int.toNat_natCast];show 1*q<=_;omega⟩),Int.toNat_natCast];congr 2
 induction q with
 |zero=>rfl
 |succ q ih=>rw[List.replicate_succ,List.flatten_cons,ih (by omega),List.replicate_succ];rfl
end Q
namespace QL
open PySem PySem.Spec PyProof.Rows L2 PySem.SeqAt Q
theorem i8:∀(i:Nat)(r:ax),R[i]?=some r->kL r.N r.ps (cL r.st)/\r.d.np=r.ps.length/\r.d.nl=r.N.length/\i6 100 ⟨r.N,(cL r.st).names,G,mt,rs,own,ats,me⟩ (fR r.st)=some r.d.body:=by
 intro i r h
 match i,h with
 |0,h|1,h|2,h|3,h|4,h|5,h|6,h|7,h|8,h|9,h|10,h|11,h|12,h|13,h|14,h|15,h|16,h|17,h|18,h|19,h|20,h|21,h|22,h|23,h|24,h|25,h|26,h|27,h|28,h|29,h|30,h|31,h|32,h|33,h|34,h|35,h|36,h|37,h|38,h|39,h|40,h|41,h|42,h|43,h|44,h|45,h|46,h|47,h|48,h|49,h|50,h|51,h|52,h|53,h|54,h=>cases h;exact⟨⟨rfl,rfl,rfl,by decide +kernel,rfl,by decide +kernel,by decide +kernel⟩,rfl,rfl,(by kernel_rfl)⟩
 |i+55,h=>cases h
end QL
namespace QL
open PySem L2 Q
noncomputable abbrev D:List fy:=R.map (·.d)
local macro_rules | `(tactic| simp_arith [$ls,*]) => `(tactic| simp only [mh, k6, oy, oA, oC, oE, oF, oG, oH, oI, oJ, oK, oM, oN, oO, oP, oQ, nI, nJ, nK, nL, nM, nN, nO, nP, nQ, nR, nS, nU, nV, nW, nX, nY, nZ, n0, n_, oa, og, oh, oi, oj, om, oo, oq, kZ, ou, ow, md, mf, ox, jK, ac.bind_ok, ac.andF_ok, List.getElem?_cons_zero, List.getElem?_cons_succ, List.set_cons_zero, List.set_cons_succ, A9, Ku, eq_int, ne_int, le_int, lt_int, Kv, aZ, ez, List.cons_append, List.nil_append, List.replicate_succ, List.replicate_zero, Nat.reduceAdd, gZ, iF, A_, KD, Ky, qT, vw, Kz, KA, KB, KC, KH, KI, Int.reduceLE, Int.reduceToNat, KE, vA, FO, FQ, K8, K9, K_, La, aL, ge_int, gt_int, Lc, Le, $ls,*])
inductive W where|kept|late|twice|far|played|joined|stretched|lost|silent
 deriving DecidableEq
noncomputable def W.s:W->Str
 |.kept=>bH|.late=>ju|.twice=>jv|.far=>jw|.played=>eW|.joined=>eE|.stretched=>dw|.lost=>dy|.silent=>dv
theorem W.s_inj{v w:W}(h:v.s=w.s):v=w:=by
 revert h;cases v<;>cases w<;>first|(intro _;rfl)|(intro h;exact absurd h (by decide))
theorem W.ok(w:W):PyData.strOk w.s=true:=by cases w<;>decide +kernel
theorem W.beq{v w:W}:(v.s==w.s)=decide (v=w):=by
 by_cases h:v=w
 ·subst h;simp
 ·rw[eN h];exact ef.mpr fun e=>h (W.s_inj e)
noncomputable def TI(l:List Int):PV:=.tup (l.map PV.int)
structure PL where
 size:Int
 first:Int
 most:Int
 kept:List (Int×List Int)
 due:Option Int
 playing:Bool
 hasPlayed:Bool
 last:List Int
 way:W
 lost:Int
 tally:W->Int
noncomputable def jc(p:PL)(d:Int):PL:={ p with due:=some d }
noncomputable def lA(p:PL)(v:Bool):PL:={ p with playing:=v }
noncomputable def pw(p:PL)(v:Bool):PL:={ p with hasPlayed:=v }
noncomputable def eU(p:PL)(v:List Int):PL:={ p with last:=v }
noncomputable def pA(p:PL)(v:W):PL:={ p with way:=v }
noncomputable def BB(p:PL)(v:Int):PL:={ p with lost:=v }
noncomputable def pB(p:PL)(i:Int)(l:List Int):PL:={ p with kept:=p.kept++[(i,l)] }
noncomputable def lB(p:PL)(i:Int):PL:={ p with kept:=p.kept.filter fun x=>decide (x.1≠i) }
noncomputable def bump(w:W)(t:W->Int):W->Int:=fun v=>if v=w then t v+1 else t v
noncomputable def pC(p:PL)(w:W):PL:={ p with tally:=bump w p.tally }
noncomputable def eV:Option Int->PV
 |none=>.non
 |some d=>.int d
noncomputable def cV(k:List (Int×List Int)):List (ao×PV):=k.map fun x=>(.inl x.1,TI x.2)
noncomputable def fI(t:W->Int):List (ao×PV):=[(.inr bH,.int (t .kept)),(.inr ju,.int (t .late)),(.inr jv,.int (t .twice)),(.inr jw,.int (t .far)),(.inr eW,.int (t .played)),(.inr eE,.int (t .joined)),(.inr dw,.int (t .stretched)),(.inr dy,.int (t .lost)),(.inr dv,.int (t .silent))]
noncomputable def gF(p:PL)(a b:Nat):List (Str×PV):=[(lT,.int p.size),(kB,.int p.first),(nr,.int p.most),(bH,.ref a),(cM,eV p.due),(gp,.bl p.playing),(kC,.bl p.hasPlayed),(g7,TI p.last),(kD,.str p.way.s),(gq,.int p.lost),(iK,.ref b)]
noncomputable def bR(p:PL)(a b:Nat):MO:=.ins am (gF p a b)
structure At(S:aa)(n a b:Nat)(p:PL):Prop where
 hn:S[n]?=some (bR p a b)
 ha:S[a]?=some (.dct (cV p.kept))
 hb:S[b]?=some (.dct (fI p.tally))
 na:n≠a
 nb:n≠b
 ab:a≠b
noncomputable def au(S:aa)(n a b:Nat)(p:PL):aa:=((S.set n (bR p a b)).set a (.dct (cV p.kept))).set b (.dct (fI p.tally))
theorem lC{S:aa}{n a b:Nat}{p:PL}:(au S n a b p).length=S.length:=by simp[au]
theorem fJ{S:aa}{n:Nat}{o:MO}(h:S[n]?=some o):S.set n o=S:=by
 obtain⟨h1,h2⟩:=bF.mp h;rw[←h2,List.set_getElem_self]
theorem At.up{S:aa}{n a b:Nat}{p:PL}(h:At S n a b p):au S n a b p=S:=by unfold au;rw[fJ h.hn,fJ h.ha,fJ h.hb]
theorem At.lt{S:aa}{n a b:Nat}{p:PL}(h:At S n a b p):n<S.length/\a<S.length/\b<S.length:=⟨(bF.mp h.hn).1,(bF.mp h.ha).1,(bF.mp h.hb).1⟩
theorem At.of{S:aa}{n a b:Nat}{p:PL}(h:At S n a b p)(q:PL):At (au S n a b q) n a b q:=by
 obtain⟨l1,l2,l3⟩:=h.lt;have na:=h.na;have nb:=h.nb;have ab:=h.ab;refine⟨?_,?_,?_,na,nb,ab⟩<;>simp[au,List.getElem?_set,a7 na,a7 nb,a7 ab,l1,l2,l3]
theorem LA{S:aa}{n a b:Nat}{p q:PL}(na:n≠a)(nb:n≠b)(ab:a≠b):au (au S n a b p) n a b q=au S n a b q:=by
 unfold au;refine xi fun i=>?_;simp only[List.getElem?_set,List.length_set];by_cases h1:b=i<;>by_cases h2:a=i<;>by_cases h3:n=i<;>simp[h1,h2,h3]
theorem At.uu{S:aa}{n a b:Nat}{p q r:PL}(h:At S n a b p):au (au S n a b q) n a b r=au S n a b r:=LA h.na h.nb h.ab
theorem re{S:aa}{n a b i:Nat}{p:PL}(h1:i≠n)(h2:i≠a)(h3:i≠b):(au S n a b p)[i]?=S[i]?:=by
 unfold au;rw[fw (a7 h3),fw (a7 h2),fw (a7 h1)]
section
variable{S:aa}{n a b:Nat}{p:PL}(h:At S n a b p)
include h
theorem vM:fV S am (.ref n)=some (n,gF p a b):=by
 simp only[fV,h.hn,bR,aL]
theorem gG{f:Str}{v:PV}(e:(gF p a b).lookup f=some v):bN S am (.ref n) f=.ok v S:=by
 simp only[bN,vM h,e]
theorem vN:bN S am (.ref n) lT=.ok (.int p.size) S:=gG h rfl
theorem pD:bN S am (.ref n) kB=.ok (.int p.first) S:=gG h rfl
theorem rf:bN S am (.ref n) nr=.ok (.int p.most) S:=gG h rfl
theorem df:bN S am (.ref n) bH=.ok (.ref a) S:=gG h rfl
theorem eL:bN S am (.ref n) cM=.ok (eV p.due) S:=gG h rfl
theorem fK:bN S am (.ref n) gp=.ok (.bl p.playing) S:=gG h rfl
theorem rg:bN S am (.ref n) kC=.ok (.bl p.hasPlayed) S:=gG h rfl
theorem vO:bN S am (.ref n) g7=.ok (TI p.last) S:=gG h rfl
theorem BC:bN S am (.ref n) kD=.ok (.str p.way.s) S:=gG h rfl
theorem BD:bN S am (.ref n) gq=.ok (.int p.lost) S:=gG h rfl
theorem vP:bN S am (.ref n) iK=.ok (.ref b) S:=gG h rfl
theorem LB{q:PL}(hk:q.kept=p.kept)(ht:q.tally=p.tally):S.set n (bR q a b)=au S n a b q:=by
 unfold au;rw[hk,ht,fJ (show(S.set n (bR q a b))[a]?=_ by rw[fw h.na];exact h.ha),fJ (show(S.set n (bR q a b))[b]?=_ by rw[fw h.nb];exact h.hb)]
theorem mM{f:Str}{v:PV}{q:PL}(e:kQ f v (gF p a b)=gF q a b)(hk:q.kept=p.kept)(ht:q.tally=p.tally):cm S am (.ref n) f v=.ok () (au S n a b q):=by
 simp only[cm,vM h];rw[ag (show(gF p a b).length<1000 by show 11<1000;decide),e,←LB h hk ht];rfl
theorem vQ{d:Int}:cm S am (.ref n) cM (.int d)=.ok () (au S n a b (jc p d)):=mM h rfl rfl rfl
theorem BE{v:Bool}:cm S am (.ref n) gp (.bl v)=.ok () (au S n a b (lA p v)):=mM h rfl rfl rfl
theorem LC{v:Bool}:cm S am (.ref n) kC (.bl v)=.ok () (au S n a b (pw p v)):=mM h rfl rfl rfl
theorem LD{v:List Int}:cm S am (.ref n) g7 (TI v)=.ok () (au S n a b (eU p v)):=mM h rfl rfl rfl
theorem LF{v:W}:cm S am (.ref n) kD (.str v.s)=.ok () (au S n a b (pA p v)):=mM h rfl rfl rfl
theorem BF{v:Int}:cm S am (.ref n) gq (.int v)=.ok () (au S n a b (BB p v)):=mM h rfl rfl rfl
theorem fL{m:Str}(e:(gF p a b).lookup m=none):bJ S am m (.ref n)=.ok (.ref n) S:=by
 simp only[bJ,vM h,e]
theorem lD:bB S (.ref a)=some (a,cV p.kept):=by simp only[bB,h.ha]
theorem BG:bB S (.ref b)=some (b,fI p.tally):=by simp only[bB,h.hb]
theorem vR:aE S (.ref a)=none:=by simp only[aE,h.ha]
theorem f_:aC S .len [.ref a]=.ok (.int p.kept.length) S:=by
 simp only[aC,dP,vR h,lD h,cV,aw]
end
noncomputable def bp(i:Int)(k:List (Int×List Int)):Option (List Int):=(k.find? fun x=>decide (x.1=i)).map (·.2)
theorem vS{k:List (Int×List Int)}{i:Int}:cC (cV k) (.inl i)=(bp i k).map TI:=by
 unfold cC bp cV;rw[List.find?_map,Option.map_map,Option.map_map];congr 1;congr 1;funext x;simp
theorem LG{k:List (Int×List Int)}{i:Int}:l5 (cV k) (.inl i)=cV (k.filter fun x=>decide (x.1≠i)):=by
 unfold l5 cV;rw[List.filter_map];congr 1;congr 1;funext x;simp
theorem LH{k:List (Int×List Int)}{i:Int}{l:List Int}(h:bp i k=none):dA (cV k) (.inl i) (TI l)=cV (k++[(i,l)]):=by
 unfold dA;rw[av]
 ·simp[cV]
 ·intro z;unfold bp at h;rw[DC,DF]at h;rw[qb]at z;obtain⟨x,hx,e⟩:=z;obtain⟨y,hy,rfl⟩:=bc.mp hx;exact absurd (by simpa using e) (by simpa using h y hy)
theorem LI{t:W->Int}{w:W}:cC (fI t) (.inr w.s)=some (.int (t w)):=by
 cases w<;>rfl
theorem LJ{t:W->Int}{w:W}:dA (fI t) (.inr w.s) (.int (t w+1))=fI (bump w t):=by
 cases w<;>rfl
theorem vT{S:aa}{i j:Int}:eS S .add (.int i) (.int j)=.ok (.int (i+j)) S:=rfl
section
variable{S:aa}{n a b:Nat}{p:PL}(h:At S n a b p)
include h
theorem vU{w:W}:gv S (.ref b) (.str w.s)=.ok (.int (p.tally w)) S:=by simp only[gv,BG h,cO,LI]
theorem BH{w:W}:jH S (.ref b) (.str w.s) (.int (p.tally w+1))=.ok () (au S n a b (pC p w)):=by
 simp only[jH,BG h,cO,LJ];rw[ag (show(fI p.tally).length<aj by show 9<aj;decide)];congr 1;unfold au pC;dsimp only;rw[fJ (show S[n]?=some (bR { p with tally:=bump w p.tally } a b) from h.hn),fJ (show S[a]?=some (.dct (cV p.kept)) from h.ha)]
theorem vV{i:Int}:l8 S (.int i) (.ref a)=some (bp i p.kept).isSome:=by
 simp only[l8,l6,lD h,cO,vS,wT]
theorem rj{i:Int}{l:List Int}(e:bp i p.kept=some l):aU S (.ref a) (.int i)=.ok (TI l) S:=by
 simp only[aU,vR h,gv,lD h,cO,vS,e,Option.map_some]
theorem BI{i:Int}{l:List Int}(e:bp i p.kept=none)(hl:p.kept.length<aj):dQ S (.ref a) (.int i) (TI l)=.ok () (au S n a b (pB p i l)):=by
 simp only[dQ,h.ha,cO,LH e];rw[ag (by simpa [cV]using hl)];congr 1;unfold au pB;dsimp only;rw[fJ (show S[n]?=some (bR { p with kept:=p.kept++[(i,l)] } a b) from h.hn),fJ (show(S.set a (.dct (cV (p.kept++[(i,l)]))))[b]?=_ by rw[fw h.ab];exact h.hb)]
theorem LK{i:Int}:∃v,kT S (.ref a) (.int i) .non=.ok v (au S n a b (lB p i)):=by
 have e:S.set a (.dct (cV (p.kept.filter fun x=>decide (x.1≠i))))=au S n a b (lB p i):=by
  unfold au lB;dsimp only;rw[fJ (show S[n]?=some (bR { p with kept:=p.kept.filter fun x=>decide (x.1≠i) } a b) from h.hn),fJ (show(S.set a (.dct (cV (p.kept.filter fun x=>decide (x.1≠i)))))[b]?=_ by rw[fw h.ab];exact h.hb)]
 unfold kT;simp only[lD h,cO,vS];cases hv:bp i p.kept with
 |none=>
  have e2:p.kept.filter (fun x=>decide (x.1≠i))=p.kept:=by
   unfold bp at hv;rw[DC,DF]at hv;exact List.filter_eq_self.mpr fun x hx=>by simpa using hv x hx
  refine⟨.non,?_⟩;simp only[Option.map_none];rw[←e,e2,fJ h.ha]
 |some l=>
  refine⟨TI l,?_⟩;simp only[Option.map_some,LG];rw[e]
theorem LL:e8 S (.ref a)=.ok (.ref a) S:=by simp only[e8,lD h]
end
theorem j8{S S1:aa}{v:PV}(hl:S1.length=S.length)(hb:below S.length v=true):bX S S1 v=.ok v S1:=by
 unfold bX;split
 ·try rw[ag hb]
  rw[←hl,m_]
 ·rfl
theorem pE{D:List fy}{wf n f:Nat}{d:fy}{args:List PV}{S S1:aa}{ro:Ro}(hd:D[f]?=some d)(hl:args.length=d.np)
  (h:ar (af D wf n) wf d.body (args.map some++List.replicate (d.nl-d.np) none) S=.ok (.next ro) S1):af D wf (n+1) f args S=bX S S1 .non:=by
 rw[A8 hd hl,h]
theorem rm(k:Nat)(w:W):below k (.str w.s)=true:=by simp only[below]
theorem lm(k:Nat):∀(l:List Int),bz k (l.map PV.int)=true
 |[]=>by simp only[ez,bz]
 |i::l=>by simp only[aZ,bz,below,lm k l,gY]
theorem jd(k:Nat)(l:List Int):below k (TI l)=true:=by simp only[TI,below,lm]
theorem mO{S:aa}{v w:W}:aK S .eq (.str v.s) (.str w.s)=.ok (.bl (decide (v=w))) S:=by rw[eq_str v.ok w.ok,W.beq]
theorem BJ{S:aa}{v w:W}:aK S .ne (.str v.s) (.str w.s)=.ok (.bl (!decide (v=w))) S:=by rw[ne_str v.ok w.ok,W.beq]
theorem k8:∀(l:List Int),de (l.map PV.int)=some l
 |[]=>rfl
 |i::l=>by simp only[aZ,de,k8 l]
theorem BK:∀{l:List Int},l≠[]->cP l≠none
 |[],h=>absurd rfl h
 |[i],_=>by simp[cP]
 |i::j::l,_=>by
  simp only[cP];cases e:cP (j::l)with
  |none=>exact absurd e (BK (by simp))
  |some m=>simp
noncomputable def mP(last short:Int):Int:=last-32768+(short-(last-32768))%65536
theorem rn{wf k:Nat}{x y:Int}{S:aa}:af D wf (k+1) 8 [.int x,.int y] S=.ok (.int (mP x y)) S:=by
 refine(aO (d:=r8.d) (p:=.int (mP x y)) (S1:=S) rfl rfl ?_).trans (ba (fG _ _));show ar (af D wf k) wf b8 [some (.int x),some (.int y),none] S=_
 simp_arith[b8,gD (show(0:Int)<65536 by decide)];rfl
noncomputable def bE(p:PL):Int:=p.due.getD 0
noncomputable def j9(p:PL):Prop:=p.due=none->p.hasPlayed=false/\p.playing=false/\p.kept=[]
noncomputable def dn(p:PL)(i:Int):W:=if (bp i p.kept).isSome then .twice else if p.hasPlayed&&decide (i<bE p) then .late else if (p.playing||decide (0<p.kept.length))&&decide (bE p+p.most<=i) then .far else .kept
noncomputable def pF(p:PL)(i:Int):Bool:=(!p.playing&&decide (p.kept.length=0))||decide (i<bE p)
noncomputable def dq(p:PL)(i:Int)(l:List Int):PL:=pB (if pF p i then jc p i else p) i l
noncomputable def putN(p:PL)(x:Int):Int:=match p.due with|none=>x|some d=>mP d x
noncomputable def bM(p:PL)(x:Int)(l:List Int):PL:=pC (if dn p (putN p x)=.kept then dq p (putN p x) l else p) (dn p (putN p x))
section
variable{wf k:Nat}{S:aa}{n a b:Nat}{p:PL}(h:At S n a b p)
include h
theorem LM{i:Int}(hd:j9 p):af D wf (k+1) 30 [.ref n,.int i] S=.ok (.str (dn p i).s) S:=by
 refine(aO (d:=ye.d) (p:=.str (dn p i).s) (S1:=S) rfl rfl ?_).trans (ba (rm _ _));show ar (af D wf k) wf s8 [some (.ref n),some (.int i)] S=_;have hin:aK S .inn (.int i) (.ref a)=.ok (.bl (bp i p.kept).isSome) S:=by simp only[aK,vV h]
 unfold dn
 simp_arith[s8,df h,rg h,eL h,fK h,rf h,f_ h,hin];cases e1:(bp i p.kept).isSome
 ·cases e0:p.due with
  |none=>
   obtain⟨e2,e3,e4⟩:=hd e0
   simp_arith[df h,rg h,eL h,fK h,rf h,f_ h,e0,e2,e3,e4,List.length_nil,jj,wS,eC,dj,Int.ofNat_zero,Int.lt_irrefl,decide_false];rfl
  |some d=>
   have ed:bE p=d:=by unfold bE;rw[e0];rfl
   have el:decide ((0:Int)<(p.kept.length:Int))=decide (0<p.kept.length):=by congr 1;exact propext ⟨fun z=>by omega,fun z=>by omega⟩
   simp_arith[df h,rg h,eL h,fK h,rf h,f_ h,e0,eV,ed,el];cases e2:p.hasPlayed<;>cases e3:decide (i<d)<;>cases e4:p.playing<;>cases e5:decide (0<p.kept.length)<;>cases e6:decide (d+p.most<=i)<;>simp_arith[df h,rg h,eL h,fK h,rf h,f_ h,e0,eV,el,e2,e4,e3,e5,e6,jj,rZ,ko,xA,wS,wR,p_,Bool.or_true,eC,dj,aL]<;>rfl
 ·simp_arith[aL];rfl
theorem LN{i:Int}{l:List Int}(hd:j9 p)(hk:bp i p.kept=none)(hl:p.kept.length<aj):af D wf (k+1) 31 [.ref n,.int i,TI l] S=.ok .non (au S n a b (dq p i l)):=by
 have key:∃ro,ar (af D wf k) wf qg [some (.ref n),some (.int i),some (TI l),none] S=.ok (.next ro) (au S n a b (dq p i l)):=by
  have el:((p.kept.length:Int)==0)=decide (p.kept.length=0):=by rw[xB];congr 1;exact propext ⟨fun z=>by omega,fun z=>by omega⟩
  have f0:dQ S (.ref a) (.int i) (TI l)=.ok () (au S n a b (pB p i l)):=BI h hk hl;have f1:dQ (au S n a b (jc p i)) (.ref a) (.int i) (TI l)=.ok () (au S n a b (pB (jc p i) i l)):=by rw[BI (h.of (jc p i)) hk hl,h.uu]
  have s1:cm S am (.ref n) cM (.int i)=.ok () (au S n a b (jc p i)):=vQ h;have k1:=df (h.of (jc p i));unfold dq pF;cases e0:p.due with
  |none=>
   obtain⟨e2,e3,e4⟩:=hd e0;have e5:decide (p.kept.length=0)=true:=by rw[e4];rfl
   simp_arith[qg,df h,eL h,fK h,f_ h,el,e3,e5,s1,k1,wR,iF,ko,aL,f1];exact⟨_,rfl⟩
  |some d=>
   have ed:bE p=d:=by unfold bE;rw[e0];rfl
   cases e4:p.playing<;>cases e5:decide (p.kept.length=0)<;>cases e6:decide (i<d)<;>simp_arith[qg,df h,eL h,fK h,f_ h,el,e0,eV,ed,e4,e5,e6,s1,k1,f0,f1,gZ,iF,jj,rZ,ko,xA,wS,wR,p_,Bool.or_true,eC,dj,aL]<;>exact⟨_,rfl⟩
 obtain⟨ro,hro⟩:=key;exact(pE (d:=yf.d) (S1:=au S n a b (dq p i l)) rfl rfl hro).trans (j8 lC (jZ _))
theorem LO{x:Int}{l:List Int}(hd:j9 p)(hz:(l.length:Int)=p.size)(hl:p.kept.length<aj):af D wf (k+2) 29 [.ref n,.int x,TI l] S=.ok (.str (dn p (putN p x)).s) (au S n a b (bM p x l)):=by
 refine(aO (d:=x_.d) (p:=.str (dn p (putN p x)).s) (S1:=au S n a b (bM p x l)) rfl rfl ?_).trans (j8 lC (rm _ _));show ar (af D wf (k+1)) wf jx [some (.ref n),some (.int x),some (TI l),none,none] S=_;have c0:aC S .len [TI l]=.ok (.int p.size) S:=by
  unfold TI
  simp_arith[aw,hz]
 obtain⟨N,hN,hdue⟩:∃N,putN p x=N/\((p.due=none/\N=x)\/∃d,p.due=some d/\N=mP d x):=by
  refine⟨_,rfl,?_⟩;unfold putN;cases e0:p.due with
  |none=>exact .inl ⟨rfl,rfl⟩
  |some d=>exact .inr ⟨d,rfl,rfl⟩
 unfold bM;rw[hN];have c2:=LM (wf:=wf) (k:=k) (i:=N) h hd;have m1:bJ S am x8 (.ref n)=.ok (.ref n) S:=fL h rfl;have m2:bJ S am x9 (.ref n)=.ok (.ref n) S:=fL h rfl;have c3:aK S .eq (.str (dn p (N)).s) (.str bH)=.ok (.bl (decide (dn p (N)=.kept))) S:=mO (w:=.kept);have pre:ar (af D wf (k+1)) wf (jx.take 4) [some (.ref n),some (.int x),some (TI l),none,none] S=.ok (.next [some (.ref n),some (.int x),some (TI l),some (.int (N)),some (.str (dn p (N)).s)]) (au S n a b (if dn p (N)=.kept then dq p (N) l else p)):=by
  by_cases hw:dn p (N)=.kept
  ·have hk:bp (N) p.kept=none:=by
    unfold dn at hw;cases e:bp (N) p.kept with
    |none=>rfl
    |some v=>rw[e]at hw;simp at hw
   have c4:=LN (wf:=wf) (k:=k) (i:=N) (l:=l) h hd hk hl;rw[ag hw];rcases hdue with ⟨e0,rfl⟩|⟨d,e0,rfl⟩ <;>
   simp_arith[jx,List.take_succ_cons,List.take_zero,c0,vN h,fx,gZ,eL h,e0,eV,rn,m1,m2,c2,c3.trans (by rw[gP hw]),c4]
  ·rw[av hw];rcases hdue with ⟨e0,rfl⟩|⟨d,e0,rfl⟩ <;>
   simp_arith[jx,List.take_succ_cons,List.take_zero,c0,vN h,fx,gZ,eL h,e0,eV,rn,m1,c2,c3.trans (by rw[eN hw]),h.up]
 have fin:∀(q:PL)(ro:Ro),ro[0]?=some (some (.ref n))->ro[4]?=some (some (.str (dn p (N)).s))->ar (af D wf (k+1)) wf (jx.drop 4) ro (au S n a b q)=.ok (.ret (.str (dn p (N)).s)) (au S n a b (pC q (dn p (N)))):=fun q ro h0 h4=>by
  have g:=h.of q;have c5:=BH g (w:=dn p N);rw[h.uu]at c5
  simp_arith[jx,qd,iC,h0,h4,vP g,vU g,vT,c5]
 have f3:=(lu (b:=jx.drop 4) pre).trans (fin _ _ rfl rfl);rw[ke]at f3;exact f3
noncomputable def aT(p:PL):PL:=if !p.playing&&decide (max p.first 1<=(p.kept.length:Int)) then jc (pw (lA p true) true) ((cP (p.kept.map (·.1))).getD 0) else p
theorem LP:aC S .list [.ref a]=.ok (.lst ((p.kept.map (·.1)).map PV.int)) S:=by
 simp only[aC,dP,vR h,t0,lD h];congr 2;simp[cV,eZ]
theorem LQ:af D wf (k+1) 33 [.ref n] S=.ok .non (au S n a b (aT p)):=by
 have key:∃ro,ar (af D wf k) wf nu [some (.ref n)] S=.ok (.next ro) (au S n a b (aT p)):=by
  have em:(if (1:Int)>p.first then 1 else p.first)=max p.first 1:=by
   rw[Int.max_def];split<;>split<;>omega
  unfold aT;cases e4:p.playing
  ·cases e5:decide (max p.first 1<=(p.kept.length:Int))
   ·simp_arith[nu,df h,pD h,fK h,f_ h,em,e4,e5,rZ,eC,dj,h.up];exact⟨_,rfl⟩
   ·have g1:=h.of (lA p true);have g2:=h.of (pw (lA p true) true);have c1:=BE h (v:=true);have c2:=LC g1 (v:=true);rw[h.uu]at c2;have c3:=vQ g2 (d:=(cP (p.kept.map (·.1))).getD 0);rw[h.uu]at c3;have c4:=LP g2;have hne:p.kept.map (·.1)≠[]:=fun z=>by
     have z1:p.kept.length=0:=by simpa using congrArg List.length z
     have z2:=si e5;rw[z1,Int.max_def]at z2;split at z2<;>omega
    have c5:∀T,aC T .min2 [.lst ((p.kept.map (·.1)).map PV.int)]=.ok (.int ((cP (p.kept.map (·.1))).getD 0)) T:=fun T=>by
     show jI T _=_;simp only[jI,dO,iQ,k8];cases e:cP (p.kept.map (·.1))with
     |none=>exact absurd e (BK hne)
     |some v=>rfl
    simp_arith[nu,df h,pD h,fK h,f_ h,em,e4,e5,xA,aL,c1,c2,df g2,show aC (au S n a b (pw (lA p true) true)) .list [.ref a]=.ok (.lst ((p.kept.map (·.1)).map PV.int)) (au S n a b (pw (lA p true) true)) from c4,c5,c3];exact⟨_,rfl⟩
  ·simp_arith[nu,df h,pD h,fK h,f_ h,em,e4,jj,eC,dj,h.up];exact⟨_,rfl⟩
 obtain⟨ro,hro⟩:=key;exact(pE (d:=ym.d) (S1:=au S n a b (aT p)) rfl rfl hro).trans (j8 lC (jZ _))
end
noncomputable def gH(one other:List Int):List Int:=(List.range one.length).map fun(k:Nat)=>(one.getD k 0*((one.length:Int)-(k:Int))+other.getD k 0*(k:Int))/(one.length:Int)
noncomputable def lE(l:List Int):List Int:=l.map fun s=>if s<0 then -(-s/2) else s/2
theorem BL{S:aa}{l:List Int}{i:Nat}(h:i<l.length):aU S (TI l) (.int (0+(i:Int)))=.ok (.int (l.getD i 0)) S:=by
 rw[qc];refine bA (j5 ?_);rw[bG,a6 h,cJ,a6 h];rfl
theorem BM{wf k:Nat}{S:aa}{one other:List Int}(h1:one.length<=1000)(h2:other.length=one.length):af D wf (k+1) 26 [TI one,TI other] S=.ok (TI (gH one other)) S:=by
 have hL:aj=16777216:=rfl;refine(aO (d:=x3.d) (p:=TI (gH one other)) (S1:=S) rfl rfl ?_).trans (ba (jd _ _));show ar (af D wf k) wf sY [some (TI one),some (TI other),none] S=_;have c0:aC S .len [TI one]=.ok (.int (one.length:Int)) S:=by
  unfold TI
  simp_arith[aw]
 simp_arith[sY,c0,eJ (show -(2 ^ 62)<=(one.length:Int)/\(one.length:Int)<2 ^ 62 by omega),bt,Option.getD_some,Int.toNat_natCast];rw[lx,dF _ (fun(i:Nat)=>.int ((one.getD i 0*((one.length:Int)-(0+(i:Int)))+other.getD i 0*(0+(i:Int)))/(one.length:Int))) (fun ro=>∃x,ro=[x,some (TI one),some (TI other),some (.int (one.length:Int))]) _ (fun i hi ro ⟨x,hro⟩=>by
  subst hro;have hi':i<one.length:=by simpa using hi
  refine⟨_,rfl,?_,_,rfl⟩
  simp_arith[BL hi',BL (show i<other.length by omega),cu (show _\/(-(2 ^ 64)<(one.length:Int)-(0+(i:Int))/\(one.length:Int)-(0+(i:Int))<2 ^ 64) from .inr (by omega)),cu (show _\/(-(2 ^ 64)<(0+(i:Int))/\(0+(i:Int))<2 ^ 64) from .inr (by omega)),i_ (show 0<(one.length:Int)/\(one.length:Int)<1073741824 by omega)]) _ ⟨_,rfl⟩]
 simp_arith[aw,du,ag (show one.length<=aj by omega)];congr 2;unfold TI gH;simp
theorem LR{wf k:Nat}{S:aa}{l:List Int}(h1:l.length<=1000):af D wf (k+1) 27 [TI l] S=.ok (TI (lE l)) S:=by
 have hL:aj=16777216:=rfl;refine(aO (d:=x4.d) (p:=TI (lE l)) (S1:=S) rfl rfl ?_).trans (ba (jd _ _));show ar (af D wf k) wf sZ [some (TI l)] S=_;unfold TI
 simp_arith[sZ,bt];rw[dF _ (fun(i:Int)=>.int (if i<0 then -(-i/2) else i/2)) (fun ro=>∃x,ro=[x]) _ (fun i hi ro ⟨x,hro⟩=>by
  subst hro;refine⟨_,rfl,?_,_,rfl⟩;by_cases hs:i<0
  ·simp_arith[gP hs,i_ (show(0:Int)<2/\(2:Int)<1073741824 by decide),ag hs]
  ·simp_arith[eN hs,i_ (show(0:Int)<2/\(2:Int)<1073741824 by decide),av hs]) _ ⟨_,rfl⟩]
 simp_arith[aw,ag (show l.length<=aj by omega)];congr 2;unfold lE;simp
noncomputable def iu(p:PL):W:=if !p.playing then .silent else if (bp (bE p) p.kept).isNone then .lost else if decide (p.first+1<(p.kept.length:Int))&&(bp (bE p+1) p.kept).isSome then .joined else if decide (p.kept.length=1)&&(decide (1<p.first)&&!decide (p.way=.stretched)) then .stretched else .played
noncomputable def je(p:PL)(i:Int):List Int:=(bp i p.kept).getD []
noncomputable def jf(p:PL):W->List Int
 |.silent=>List.replicate p.size.toNat 0
 |.lost=>lE p.last
 |.joined=>gH (je p (bE p)) (je p (bE p+1))
 |.stretched=>gH p.last (je p (bE p))
 |_=>je p (bE p)
noncomputable def gI(p:PL):PL:=jc (lB p (bE p)) (bE p+1)
noncomputable def cW(p:PL):W->PL
 |.played=>gI p
 |.lost=>gI p
 |.joined=>gI (gI p)
 |_=>p
noncomputable def dG(p:PL)(w:W):PL:=BB p (if w=.lost then p.lost+1 else 0)
noncomputable def dH(p:PL)(w:W):PL:=if decide ((dG p w).lost=3)&&decide (p.kept.length=0) then lA (dG p w) false else dG p w
noncomputable def aW(p:PL):W:=iu (aT p)
noncomputable def cv(p:PL):List Int:=jf (aT p) (aW p)
noncomputable def gJ(p:PL):PL:=pC (pA (dH (cW (eU (aT p) (cv p)) (aW p)) (aW p)) (aW p)) (aW p)
structure cw(p:PL):Prop where
 due:j9 p
 sz0:0<=p.size
 sz1:p.size<=1000
 last:(p.last.length:Int)=p.size
 len:∀x∈p.kept,(x.2.length:Int)=p.size
section
variable{wf k:Nat}{S:aa}{n a b:Nat}{p:PL}(h:At S n a b p)
include h
theorem LS(hd:j9 p):af D wf (k+1) 34 [.ref n] S=.ok (.str (iu p).s) S:=by
 refine(aO (d:=yn.d) (p:=.str (iu p).s) (S1:=S) rfl rfl ?_).trans (ba (rm _ _));show ar (af D wf k) wf nv [some (.ref n)] S=_;unfold iu;cases e4:p.playing
 ·simp_arith[nv,fK h,e4,iF,aL];rfl
 ·cases e0:p.due with
  |none=>obtain⟨_,z,_⟩:=hd e0;rw[e4]at z;cases z
  |some d=>
   have ed:bE p=d:=by unfold bE;rw[e0];rfl
   have hin:aK S .notin (.int d) (.ref a)=.ok (.bl (!(bp d p.kept).isSome)) S:=by simp only[aK,vV h]
   have hin1:aK S .inn (.int (d+1)) (.ref a)=.ok (.bl (bp (d+1) p.kept).isSome) S:=by simp only[aK,vV h]
   have el:((p.kept.length:Int)==1)=decide (p.kept.length=1):=by rw[xB];congr 1;exact propext ⟨fun z=>by omega,fun z=>by omega⟩
   have ew:aK S .ne (.str p.way.s) (.str dw)=.ok (.bl (!decide (p.way=.stretched))) S:=BJ (w:=.stretched);rw[ed];cases e1:bp d p.kept with
   |none=>
    simp_arith[nv,fK h,eL h,df h,e4,e0,eV,hin,e1,Option.isSome_none,Option.isNone_none,iF,gZ,eC,dj,aL];rfl
   |some v=>
    simp_arith[nv,fK h,eL h,df h,pD h,BC h,f_ h,e4,e0,eV,hin,e1,Option.isSome_some,Option.isNone_some,iF,gZ,eC,dj];cases e2:decide (p.first+1<(p.kept.length:Int))<;>cases e3:(bp (d+1) p.kept).isSome<;>cases e5:decide (p.kept.length=1)<;>cases e6:decide (1<p.first)<;>cases e7:decide (p.way=.stretched) <;>
     simp_arith[fK h,eL h,df h,pD h,BC h,f_ h,e4,e0,eV,hin1,el,ew,e2,e3,e5,e6,e7,jj,rZ,ko,xA,iF,gZ,eC,dj,aL]<;>rfl
theorem LU{w:W}(ok:cw p)(hw:w=.silent\/w=.lost\/(p.due.isSome=true/\((w=.joined/\(bp (bE p) p.kept).isSome=true/\(bp (bE p+1) p.kept).isSome=true)\/((w=.stretched\/w=.played)/\(bp (bE p) p.kept).isSome=true)))):af D wf (k+2) 35 [.ref n,.str w.s] S=.ok (TI (jf p w)) S:=by
 refine(aO (d:=yo.d) (p:=TI (jf p w)) (S1:=S) rfl rfl ?_).trans (ba (jd _ _));show ar (af D wf (k+1)) wf kE [some (.ref n),some (.str w.s)] S=_;have q1:aK S .eq (.str w.s) (.str dv)=.ok (.bl (decide (w=.silent))) S:=mO (w:=.silent);have q2:aK S .eq (.str w.s) (.str dy)=.ok (.bl (decide (w=.lost))) S:=mO (w:=.lost);have q3:aK S .eq (.str w.s) (.str eE)=.ok (.bl (decide (w=.joined))) S:=mO (w:=.joined);have q4:aK S .eq (.str w.s) (.str dw)=.ok (.bl (decide (w=.stretched))) S:=mO (w:=.stretched);have sz1:=ok.sz1;have sz0:=ok.sz0;have hla:=ok.last;have hlk:∀i v,bp i p.kept=some v->(v.length:Int)=p.size:=fun i v e=>by
  unfold bp at e;rw[C6]at e;obtain⟨x,hx,rfl⟩:=e;exact ok.len x (DH hx)
 rcases hw with rfl|rfl|⟨hdu,hw⟩
 ·have c1:aN S .mul (.tup [.int 0]) (.int p.size)=.ok (TI (List.replicate p.size.toNat 0)) S:=by
   have:=vL (S:=S) (x:=.int 0) (q:=p.size.toNat) (by omega);rw[show((p.size.toNat:Nat):Int)=p.size by omega]at this;rw[this];unfold TI;rw[List.map_replicate]
  simp_arith[kE,vN h,q1,sj,c1];rfl
 ·have r1:decide (W.lost=.silent)=false:=by decide
  simp_arith[kE,vO h,q1,q2,r1,sj,LR (show p.last.length<=1000 by omega)];rfl
 ·obtain⟨d,hd⟩:=iA.mp hdu;have ed:bE p=d:=by unfold bE;rw[hd];rfl
  rw[ed]at hw;rcases hw with ⟨rfl,hv,hv1⟩|⟨hw,hv⟩
  ·obtain⟨v,hv⟩:=iA.mp hv;obtain⟨v1,hv1⟩:=iA.mp hv1;have l1:=hlk _ _ hv;have l2:=hlk _ _ hv1;have es:jf p .joined=gH v v1:=by simp only[jf,je,ed,hv,hv1,Option.getD_some]
   rw[es];have r1:decide (W.joined=.silent)=false:=by decide
   have r2:decide (W.joined=.lost)=false:=by decide
   simp_arith[kE,q1,q2,q3,r1,r2,sj,df h,eL h,hd,eV,rj h hv,rj h hv1,BM (show v.length<=1000 by omega) (show v1.length=v.length by omega)]
  ·obtain⟨v,hv⟩:=iA.mp hv;have l1:=hlk _ _ hv;rcases hw with rfl|rfl
   ·have es:jf p .stretched=gH p.last v:=by simp only[jf,je,ed,hv,Option.getD_some]
    rw[es];have r1:decide (W.stretched=.silent)=false:=by decide
    have r2:decide (W.stretched=.lost)=false:=by decide
    have r3:decide (W.stretched=.joined)=false:=by decide
    simp_arith[kE,q1,q2,q3,q4,r1,r2,r3,sj,df h,eL h,vO h,hd,eV,rj h hv,BM (show p.last.length<=1000 by omega) (show v.length=p.last.length by omega)]
   ·have es:jf p .played=v:=by simp only[jf,je,ed,hv,Option.getD_some]
    rw[es];have r1:decide (W.played=.silent)=false:=by decide
    have r2:decide (W.played=.lost)=false:=by decide
    have r3:decide (W.played=.joined)=false:=by decide
    have r4:decide (W.played=.stretched)=false:=by decide
    simp_arith[kE,q1,q2,q3,q4,r1,r2,r3,r4,df h,eL h,hd,eV,rj h hv]
theorem LV{F:Nat->List PV->aa->ac PV}{x y:Option PV}(hd:p.due.isSome=true):ar F wf qh [some (.ref n),x,y] S=.ok (.next [some (.ref n),x,y]) (au S n a b (gI p)):=by
 obtain⟨d,hd⟩:=iA.mp hd;have ed:bE p=d:=by unfold bE;rw[hd];rfl
 obtain⟨v,c1⟩:=LK h (i:=d);have g:=h.of (lB p d);have c2:=vQ g (d:=d+1);rw[h.uu]at c2;have c3:bN (au S n a b (lB p d)) am (.ref n) cM=.ok (.int d) (au S n a b (lB p d)):=by
  rw[eL g];show ac.ok (eV p.due) _=_;rw[hd];rfl
 unfold gI
 simp_arith[qh,df h,eL h,LL h,hd,eV,c1,c3,vT,c2,ed]
theorem LW{w:W}(hd:p.due.isSome=true\/(w=.silent\/w=.stretched))(hw:w=.silent\/w=.lost\/w=.joined\/w=.stretched\/w=.played):af D wf (k+1) 36 [.ref n,.str w.s] S=.ok .non (au S n a b (cW p w)):=by
 have key:∃ro,ar (af D wf k) wf kF [some (.ref n),some (.str w.s),none] S=.ok (.next ro) (au S n a b (cW p w)):=by
  have one:∀{q:PL},At S n a b p->q.due.isSome=true->∀y,ar (af D wf k) wf qh [some (.ref n),some (.str w.s),y] (au S n a b q)=.ok (.next [some (.ref n),some (.str w.s),y]) (au S n a b (gI q)):=fun {q} h hq y=>by
   rw[LV (h.of q) hq,h.uu]
  have tg1:∀(v:PV)(y:Option PV),bx (.one 2) v [some (.ref n),some (.str w.s),y]=some [some (.ref n),some (.str w.s),some v]:=fun v y=>rfl;have i0:a8 S .range [.int 0]=some ⟨[],none⟩:=eJ (by decide);have i1:a8 S .range [.int 1]=some ⟨[.int 0],none⟩:=eJ (by decide);have i2:a8 S .range [.int 2]=some ⟨[.int 0,.int 1],none⟩:=eJ (by decide);have ck:∀T,bw T none=true:=bL;rcases hw with rfl|rfl|rfl|rfl|rfl
  ·have c1:h7 [(eW,1),(eE,2),(dw,0),(dy,1),(dv,0)] S (.str W.silent.s)=.ok (.int 0) S:=rfl
   simp_arith[kF,c1,i0,ce,ck,cW,h.up];exact⟨_,rfl⟩
  ·have c1:h7 [(eW,1),(eE,2),(dw,0),(dy,1),(dv,0)] S (.str W.lost.s)=.ok (.int 1) S:=rfl;have hq:p.due.isSome=true:=by rcases hd with hd|hd|hd;exact hd;cases hd;cases hd
   have o1:=one h hq;rw[h.up]at o1
   simp_arith[kF,c1,i1,ce,ck,cW,tg1,o1];exact⟨_,rfl⟩
  ·have c1:h7 [(eW,1),(eE,2),(dw,0),(dy,1),(dv,0)] S (.str W.joined.s)=.ok (.int 2) S:=rfl;have hq:p.due.isSome=true:=by rcases hd with hd|hd|hd;exact hd;cases hd;cases hd
   have o1:=one h hq;rw[h.up]at o1;have o2:=one (q:=gI p) h rfl
   simp_arith[kF,c1,i2,ce,ck,cW,tg1,o1,o2];exact⟨_,rfl⟩
  ·have c1:h7 [(eW,1),(eE,2),(dw,0),(dy,1),(dv,0)] S (.str W.stretched.s)=.ok (.int 0) S:=rfl
   simp_arith[kF,c1,i0,ce,ck,cW,h.up];exact⟨_,rfl⟩
  ·have c1:h7 [(eW,1),(eE,2),(dw,0),(dy,1),(dv,0)] S (.str W.played.s)=.ok (.int 1) S:=rfl;have hq:p.due.isSome=true:=by rcases hd with hd|hd|hd;exact hd;cases hd;cases hd
   have o1:=one h hq;rw[h.up]at o1
   simp_arith[kF,c1,i1,ce,ck,cW,tg1,o1];exact⟨_,rfl⟩
 obtain⟨ro,hro⟩:=key;exact(pE (d:=yp.d) (S1:=au S n a b (cW p w)) rfl rfl hro).trans (j8 lC (jZ _))
theorem LX{w:W}:af D wf (k+1) 37 [.ref n,.str w.s] S=.ok .non (au S n a b (dH p w)):=by
 have key:∃ro,ar (af D wf k) wf jy [some (.ref n),some (.str w.s)] S=.ok (.next ro) (au S n a b (dH p w)):=by
  have q1:aK S .eq (.str w.s) (.str dy)=.ok (.bl (decide (w=.lost))) S:=mO (w:=.lost);have g:=h.of (dG p w);have g1:bN (au S n a b (dG p w)) am (.ref n) gq=.ok (.int (dG p w).lost) (au S n a b (dG p w)):=BD g;have g2:=f_ g;have g3:=BE g (v:=false);rw[h.uu]at g3;have el:((p.kept.length:Int)==0)=decide (p.kept.length=0):=by rw[xB];congr 1;exact propext ⟨fun z=>by omega,fun z=>by omega⟩
  have el3:((dG p w).lost==3)=decide ((dG p w).lost=3):=xB _ _;have pre:ar (af D wf k) wf (jy.take 1) [some (.ref n),some (.str w.s)] S=.ok (.next [some (.ref n),some (.str w.s)]) (au S n a b (dG p w)):=by
   by_cases hw:w=.lost
   ·have c1:cm S am (.ref n) gq (.int (p.lost+1))=.ok () (au S n a b (dG p w)):=by
     unfold dG;rw[ag hw];exact BF h
    simp_arith[jy,List.take_succ_cons,List.take_zero,q1,gP hw,BD h,c1]
   ·have c1:cm S am (.ref n) gq (.int 0)=.ok () (au S n a b (dG p w)):=by
     unfold dG;rw[av hw];exact BF h
    simp_arith[jy,List.take_succ_cons,List.take_zero,q1,eN hw,c1]
  have fin:∃ro,ar (af D wf k) wf (jy.drop 1) [some (.ref n),some (.str w.s)] (au S n a b (dG p w))=.ok (.next ro) (au S n a b (dH p w)):=by
   have g2':aC (au S n a b (dG p w)) .len [.ref a]=.ok (.int p.kept.length) (au S n a b (dG p w)):=g2;unfold dH;cases e1:decide ((dG p w).lost=3)<;>cases e2:decide (p.kept.length=0) <;>
    simp_arith[jy,qd,iC,g1,df g,g2',g3,el,el3,e1,e2,jj,ko,eC,dj,aL]<;>exact⟨_,rfl⟩
  obtain⟨ro,fin⟩:=fin;have f3:=(lu (b:=jy.drop 1) pre).trans fin;rw[ke]at f3;exact⟨ro,f3⟩
 obtain⟨ro,hro⟩:=key;exact(pE (d:=yq.d) (S1:=au S n a b (dH p w)) rfl rfl hro).trans (j8 lC (jZ _))
theorem rq(hl:p.kept.length<64):af D wf (k+1) 38 [.ref n] S=.ok (TI (dk (p.kept.map (·.1)))) S:=by
 refine(aO (d:=yr.d) (p:=TI (dk (p.kept.map (·.1)))) (S1:=S) rfl rfl ?_).trans (ba (jd _ _));show ar (af D wf k) wf s_ [some (.ref n)] S=_;have c1:aC S .sorted [.ref a]=.ok (.lst ((dk (p.kept.map (·.1))).map PV.int)) S:=by
  have e:((cV p.kept).map (·.1)).map eZ=(p.kept.map (·.1)).map PV.int:=by simp[cV,eZ]
  simp only[aC,dP,nH,lD h,nG,e,k8,aw];rw[ag hl]
 simp_arith[s_,df h,c1];rfl
noncomputable def lF:List W:=[.kept,.late,.twice,.far,.played,.joined,.stretched,.lost,.silent]
theorem rz:af D wf (k+1) 39 [.ref n] S=.ok (TI (lF.map p.tally)) S:=by
 refine(aO (d:=yt.d) (p:=TI (lF.map p.tally)) (S1:=S) rfl rfl ?_).trans (ba (jd _ _));show ar (af D wf k) wf tf [some (.ref n)] S=_;have sb:aE S (.ref b)=none:=by simp only[aE,h.hb]
 simp_arith[tf,bt,Option.getD_some];rw[show[PV.str bH,.str ju,.str jv,.str jw,.str eW,.str eE,.str dw,.str dy,.str dv]=lF.map (fun w=>PV.str w.s) from rfl];rw[dF _ (fun(w:W)=>.int (p.tally w)) (fun ro=>∃x,ro=[x,some (.ref n)]) _ (fun w hw ro ⟨x,hro⟩=>by
  subst hro;refine⟨_,rfl,?_,_,rfl⟩
  simp_arith[vP h,aU,sb,vU h]) _ ⟨_,rfl⟩]
 simp_arith[aw,ag (show lF.length<=aj by decide)];congr 2
end
theorem LY{p:PL}(hd:j9 p):j9 (aT p):=by
 unfold aT;split
 ·intro z;cases z
 ·exact hd
theorem vW{p:PL}(ok:cw p):cw (aT p):=by
 refine⟨LY ok.due,?_,?_,?_,?_⟩<;>unfold aT<;>split
 ·exact ok.sz0
 ·exact ok.sz0
 ·exact ok.sz1
 ·exact ok.sz1
 ·exact ok.last
 ·exact ok.last
 ·exact ok.len
 ·exact ok.len
theorem BN{p:PL}(hd:j9 p):iu p=.silent\/(p.due.isSome=true/\(iu p=.lost\/(iu p=.joined/\(bp (bE p) p.kept).isSome=true/\(bp (bE p+1) p.kept).isSome=true)\/((iu p=.stretched\/iu p=.played)/\(bp (bE p) p.kept).isSome=true))):=by
 unfold iu;cases e4:p.playing
 ·exact .inl (by simp)
 ·refine .inr ?_;have hs:p.due.isSome=true:=by
   cases e0:p.due with
   |none=>obtain⟨_,z,_⟩:=hd e0;rw[e4]at z;cases z
   |some d=>rfl
  refine⟨hs,?_⟩;simp only[gZ,eC,dj];cases e1:bp (bE p) p.kept with
  |none=>exact .inl (by simp)
  |some v=>
   refine .inr ?_;simp only[Option.isNone_some,Option.isSome_some,eC,dj];split
   ·rename_i hc;rw[aG]at hc;exact .inl ⟨by simp,by simp,hc.2⟩
   ·split
    ·exact .inr ⟨.inl (by simp),by simp⟩
    ·exact .inr ⟨.inr (by simp),by simp⟩
theorem LZ{p:PL}{w:W}:(cW p w).last=p.last:=by cases w<;>rfl
theorem L0{p:PL}{w:W}:(dH p w).last=p.last:=by unfold dH;split<;>rfl
theorem L1{p:PL}:(gJ p).last=cv p:=by
 show(dH (cW (eU (aT p) (cv p)) (aW p)) (aW p)).last=_;rw[L0,LZ];rfl
theorem L3{wf k:Nat}{S:aa}{n a b:Nat}{p:PL}(h:At S n a b p)(ok:cw p):af D wf (k+3) 32 [.ref n] S=.ok (TI (cv p)) (au S n a b (gJ p)):=by
 refine(aO (d:=yl.d) (p:=TI (cv p)) (S1:=au S n a b (gJ p)) rfl rfl ?_).trans (j8 lC (jd _ _));show ar (af D wf (k+2)) wf s9 [some (.ref n),none] S=_;have ok1:=vW ok;have wc:=BN ok1.due;have hw:aW p=.silent\/aW p=.lost\/((aT p).due.isSome=true/\((aW p=.joined/\(bp (bE (aT p)) (aT p).kept).isSome=true/\(bp (bE (aT p)+1) (aT p).kept).isSome=true)\/((aW p=.stretched\/aW p=.played)/\(bp (bE (aT p)) (aT p).kept).isSome=true))):=by
  rcases wc with w1|⟨w2,w3|w3⟩
  ·exact .inl w1
  ·exact .inr (.inl w3)
  ·exact .inr (.inr ⟨w2,w3⟩)
 have hd:(eU (aT p) (cv p)).due.isSome=true\/(aW p=.silent\/aW p=.stretched):=by
  rcases wc with w1|⟨w2,_⟩
  ·exact .inr (.inl w1)
  ·exact .inl w2
 have hw2:aW p=.silent\/aW p=.lost\/aW p=.joined\/aW p=.stretched\/aW p=.played:=by
  rcases hw with z|z|⟨_,⟨z,_⟩|⟨z|z,_⟩⟩<;>simp[z]
 have g0:=h.of (aT p);have g1:=h.of (eU (aT p) (cv p));have g2:=h.of (cW (eU (aT p) (cv p)) (aW p));have g3:=h.of (dH (cW (eU (aT p) (cv p)) (aW p)) (aW p));have g4:=h.of (pA (dH (cW (eU (aT p) (cv p)) (aW p)) (aW p)) (aW p));have g5:=h.of (gJ p);have c0:=LQ (wf:=wf) (k:=k+1) h;have c1:af D wf (k+2) 34 [.ref n] (au S n a b (aT p))=.ok (.str (aW p).s) (au S n a b (aT p)):=LS g0 ok1.due;have c2:af D wf (k+2) 35 [.ref n,.str (aW p).s] (au S n a b (aT p))=.ok (TI (cv p)) (au S n a b (aT p)):=LU g0 ok1 hw;have c3:=LD g0 (v:=cv p);rw[h.uu]at c3;have c4:=LW (wf:=wf) (k:=k+1) g1 hd hw2;rw[h.uu]at c4;have c5:=LX (wf:=wf) (k:=k+1) g2 (w:=aW p);rw[h.uu]at c5;have c6:=LF g3 (v:=aW p);rw[h.uu]at c6;have c7:=BH g4 (w:=aW p);rw[h.uu]at c7;have c8:jH (au S n a b (pA (dH (cW (eU (aT p) (cv p)) (aW p)) (aW p)) (aW p))) (.ref b) (.str (aW p).s) (.int ((pA (dH (cW (eU (aT p) (cv p)) (aW p)) (aW p)) (aW p)).tally (aW p)+1))=.ok () (au S n a b (gJ p)):=c7;have c9:bN (au S n a b (gJ p)) am (.ref n) g7=.ok (TI (cv p)) (au S n a b (gJ p)):=by rw[vO g5,L1]
 have m0:bJ S am yg (.ref n)=.ok (.ref n) S:=fL h rfl;have m1:bJ (au S n a b (aT p)) am yh (.ref n)=.ok (.ref n) (au S n a b (aT p)):=fL g0 rfl;have m2:bJ (au S n a b (aT p)) am yi (.ref n)=.ok (.ref n) (au S n a b (aT p)):=fL g0 rfl;have m3:bJ (au S n a b (eU (aT p) (cv p))) am yj (.ref n)=.ok (.ref n) (au S n a b (eU (aT p) (cv p))):=fL g1 rfl;have m4:bJ (au S n a b (cW (eU (aT p) (cv p)) (aW p))) am yk (.ref n)=.ok (.ref n) (au S n a b (cW (eU (aT p) (cv p)) (aW p))):=fL g2 rfl
 simp_arith[s9,m0,c0,m1,c1,m2,c2,c3,m3,c4,m4,c5,c6,vP g4,vU g4,vT,c8,c9]
noncomputable def dg(size first most:Int):PL:={ size:=size,first:=first,most:=most,kept:=[],due:=none,playing:=false,hasPlayed:=false,last:=List.replicate size.toNat 0,way:=.silent,lost:=0,tally:=fun _=>0 }
theorem pG{S:aa}{x:MO}{t:List MO}:(S++x::t)[S.length]?=some x:=by simp
theorem L4{S:aa}{x y:MO}{t:List MO}:(S++x::t).set S.length y=S++y::t:=by
 rw[List.set_append_right _ _ (aF _),wV];rfl
theorem vX{S:aa}{x y z:MO}:(S++[x,y,z])[S.length+2]?=some z:=by
 rw[fP (by omega)];simp
theorem BO{S:aa}{x y z u:MO}:(S++[x,y,z]).set (S.length+2) u=S++[x,y,u]:=by
 rw[List.set_append_right _ _ (by omega),show S.length+2-S.length=2 by omega];rfl
theorem L5{S:aa}{c f:Str}{fs:List (Str×PV)}{t:List MO}{v:PV}(hl:fs.length<1000):cm (S++.ins c fs::t) c (.ref S.length) f v=.ok () (S++.ins c (kQ f v fs)::t):=by
 have e:fV (S++.ins c fs::t) c (.ref S.length)=some (S.length,fs):=by simp only[fV,pG,aL]
 simp only[cm,e];rw[ag hl,L4]
theorem L6{kvs:List (ao×PV)}{q:ao}{v:PV}:(dA kvs q v).length<=kvs.length+1:=by
 unfold dA;split<;>simp
theorem BP{F:Nat->List PV->aa->ac PV}{wf:Nat}{S:aa}{q:PL}{y:MO}:∀(xs:List Str)(T:List (ao×PV))(a0 a1 a2 a3 a4:Option PV),a0=some (.ref S.length)->T.length+xs.length<aj ->
  ∃ro',ce (ar F wf qf) (.one 4) none (xs.map PV.str) [a0,a1,a2,a3,a4] (S++[bR q (S.length+1) (S.length+2),y,.dct T])=.ok (.next ro') (S++[bR q (S.length+1) (S.length+2),y,.dct (xs.foldl (fun T x=>dA T (.inr x) (.int 0)) T)])
 |[],T,a0,a1,a2,a3,a4,h0,hl=>⟨_,by simp only[ez,ce,List.foldl_nil];rw[ag (bL _)]⟩
 |x::xs,T,a0,a1,a2,a3,a4,h0,hl=>by
  subst h0;have c1:bN (S++[bR q (S.length+1) (S.length+2),y,.dct T]) am (.ref S.length) iK=.ok (.ref (S.length+2)) (S++[bR q (S.length+1) (S.length+2),y,.dct T]):=by
   have e:fV (S++[bR q (S.length+1) (S.length+2),y,.dct T]) am (.ref S.length)=some (S.length,gF q (S.length+1) (S.length+2)):=by
    simp only[fV,pG,bR,aL]
   simp only[bN,e];rfl
  have hl':T.length<aj:=by rw[List.length_cons]at hl;omega
  have c2:dQ (S++[bR q (S.length+1) (S.length+2),y,.dct T]) (.ref (S.length+2)) (.str x) (.int 0)=.ok () (S++[bR q (S.length+1) (S.length+2),y,.dct (dA T (.inr x) (.int 0))]):=by
   simp only[dQ,vX,cO];rw[ag hl',BO]
  have hp:=L6 (kvs:=T) (q:=.inr x) (v:=.int 0);obtain⟨ro',ih⟩:=BP (F:=F) (wf:=wf) (S:=S) (q:=q) (y:=y) xs (dA T (.inr x) (.int 0)) (some (.ref S.length)) a1 a2 a3 (some (.str x)) rfl (by rw[List.length_cons]at hl;omega);refine⟨ro',?_⟩;simp only[aZ,ce,List.foldl_cons];rw[ag (bL _)];have t:bx (.one 4) (.str x) [some (.ref S.length),a1,a2,a3,a4]=some [some (.ref S.length),a1,a2,a3,some (.str x)]:=rfl;rw[t];dsimp only;have b:ar F wf qf [some (.ref S.length),a1,a2,a3,some (.str x)] (S++[bR q (S.length+1) (S.length+2),y,.dct T])=.ok (.next [some (.ref S.length),a1,a2,a3,some (.str x)]) (S++[bR q (S.length+1) (S.length+2),y,.dct (dA T (.inr x) (.int 0))]):=by
   simp_arith[qf,c1,c2]
  rw[b,ac.andF_ok];exact ih
theorem L7{wf k:Nat}{S:aa}{size first most:Int}(h0:0<=size)(h1:size<=1000):af D wf (k+1) 28 [.ref S.length,.int size,.int first,.int most] (S++[.ins am []])=.ok .non (S++[bR (dg size first most) (S.length+1) (S.length+2),.dct [],.dct (fI fun _=>0)]):=by
 have c1:∀T,aN T .mul (.tup [.int 0]) (.int size)=.ok (TI (List.replicate size.toNat 0)) T:=fun T=>by
  have:=vL (S:=T) (x:=.int 0) (q:=size.toNat) (by omega);rw[show((size.toNat:Nat):Int)=size by omega]at this;rw[this];unfold TI;rw[List.map_replicate]
 have d1:∀(x:MO),fb (S.length+1) [] [] (S++[x,.dct []])=.ok (.ref (S.length+1)) (S++[x,.dct []]):=fun x=>by
  have g:(S++[x,MO.dct []])[S.length+1]?=some (.dct []):=by rw[fP (by omega)];simp
  unfold fb;rw[ag ⟨jl _,rfl⟩,g];simp only[List.zip_nil_left,kP,List.foldl_nil];rw[fJ g]
 have d2:∀(x:MO),fb (S.length+2) [] [] (S++[x,.dct [],.dct []])=.ok (.ref (S.length+2)) (S++[x,.dct [],.dct []]):=fun x=>by
  unfold fb;rw[ag ⟨jl _,rfl⟩,vX];simp only[List.zip_nil_left,kP,List.foldl_nil];rw[BO]
 obtain⟨G,hG⟩:∃G:Nat->List (Str×PV),G=fun j=>(gF (dg size first most) (S.length+1) (S.length+2)).take j:=⟨_,rfl⟩
 have sf:∀(j:Nat)(f:Str)(v:PV)(t:List MO),j<1000->kQ f v (G j)=G (j+1)->cm (S++.ins am (G j)::t) am (.ref S.length) f v=.ok () (S++.ins am (G (j+1))::t):=fun j f v t hj e=>by
  rw[L5 (by rw[hG];exact Nat.lt_of_le_of_lt (List.length_take_le _ _) hj),e]
 have f0:=fun t=>sf 0 lT (.int size) t (by decide) (by rw[hG];rfl);have f1:=fun t=>sf 1 kB (.int first) t (by decide) (by rw[hG];rfl)
 have f2:=fun t=>sf 2 nr (.int most) t (by decide) (by rw[hG];rfl);have f3:=fun t=>sf 3 bH (.ref (S.length+1)) t (by decide) (by rw[hG];rfl);have f4:=fun t=>sf 4 cM .non t (by decide) (by rw[hG];rfl);have f5:=fun t=>sf 5 gp (.bl false) t (by decide) (by rw[hG];rfl);have f6:=fun t=>sf 6 kC (.bl false) t (by decide) (by rw[hG];rfl);have f7:=fun t=>sf 7 g7 (TI (List.replicate size.toNat 0)) t (by decide) (by rw[hG];rfl);have f8:=fun t=>sf 8 kD (.str dv) t (by decide) (by rw[hG];rfl);have f9:=fun t=>sf 9 gq (.int 0) t (by decide) (by rw[hG];rfl);have f10:=fun t=>sf 10 iK (.ref (S.length+2)) t (by decide) (by rw[hG];rfl);have g11:MO.ins am (G 11)=bR (dg size first most) (S.length+1) (S.length+2):=by rw[hG];rfl
 have l1:∀x:MO,(S++[x]).length=S.length+1:=fun x=>by simp
 have l2:∀x y:MO,(S++[x,y]).length=S.length+2:=fun x y=>by simp
 have pre:ar (af D wf k) wf (lU.take 11) [some (.ref S.length),some (.int size),some (.int first),some (.int most),none] (S++[.ins am (G 0)])=.ok (.next [some (.ref S.length),some (.int size),some (.int first),some (.int most),none]) (S++[.ins am (G 11),.dct [],.dct []]):=by
  simp_arith[lU,List.take_succ_cons,List.take_zero,f0,f1,f2,f3,f4,f5,f6,f7,f8,f9,f10,c1,l1,l2,Dv,d1,d2]
 obtain⟨ro',hloop⟩:=BP (F:=af D wf k) (wf:=wf) (S:=S) (q:=dg size first most) (y:=.dct []) [bH,ju,jv,jw,eW,eE,dw,dy,dv] [] (some (.ref S.length)) (some (.int size)) (some (.int first)) (some (.int most)) none rfl (by show 0+9<aj;decide)
 have hT:[bH,ju,jv,jw,eW,eE,dw,dy,dv].foldl (fun T x=>dA T (.inr x) (.int 0)) []=fI fun _=>0:=rfl;rw[hT]at hloop;have fin:ar (af D wf k) wf (lU.drop 11) [some (.ref S.length),some (.int size),some (.int first),some (.int most),none] (S++[.ins am (G 11),.dct [],.dct []])=.ok (.next ro') (S++[bR (dg size first most) (S.length+1) (S.length+2),.dct [],.dct (fI fun _=>0)]):=by
  rw[g11];simp only[lU,qd,iC,mh,k6,oy,oA,oC,oE,oF,oG,oH,oI,oJ,oK,oM,oN,oO,oP,oQ,nI,nJ,nK,nL,nM,nN,nO,nP,nQ,nR,nS,nU,nV,nW,nX,nY,nZ,n0,n_,oa,og,oh,oi,oj,om,oo,oq,kZ,ou,ow,md,mf,ox,jK,ac.bind_ok,A_];simp only[aZ,ez]at hloop;rw[hloop];rfl
 have f3':=(lu (b:=lU.drop 11) pre).trans fin;rw[ke]at f3';refine(pE (d:=x7.d) (S1:=S++[bR (dg size first most) (S.length+1) (S.length+2),.dct [],.dct (fI fun _=>0)]) rfl rfl (ro:=ro') ?_).trans ?_
 ·have:G 0=[]:=by rw[hG];rfl
  rw[this]at f3';exact f3'
 ·unfold bX;rw[av];rintro⟨ho,_⟩;rcases ho S.length (bR (dg size first most) (S.length+1) (S.length+2)) (by simp) pG with z|z
  ·rw[pG]at z;simp[bR,gF]at z
  ·simp[MO.below,bR,gF,MO.vals,bz,below]at z
theorem L8{S:aa}{size first most:Int}:At (S++[bR (dg size first most) (S.length+1) (S.length+2),.dct [],.dct (fI fun _=>0)]) S.length (S.length+1) (S.length+2) (dg size first most):=by
 refine⟨pG,?_,vX,by omega,by omega,by omega⟩;rw[fP (by omega)];simp[cV,dg]
theorem L9{size first most:Int}(h0:0<=size)(h1:size<=1000):cw (dg size first most):=⟨fun _=>⟨rfl,rfl,rfl⟩,h0,h1,by simp[dg];omega,fun x hx=>nomatch hx⟩
theorem jT{i:Int}{k:List (Int×List Int)}{v:List Int}(h:bp i k=some v):(i,v)∈k:=by
 unfold bp at h;rw[C6]at h;obtain⟨x,hx,rfl⟩:=h;have h1:=DH hx;have h2:=List.find?_some hx;have:x.1=i:=by simpa using h2
 rw[←this];exact h1
theorem L_{p:PL}{x:Int}{s:List Int}(ok:cw p)(hs:(s.length:Int)=p.size):cw (bM p x s)/\(bM p x s).size=p.size/\(bM p x s).kept.length<=p.kept.length+1:=by
 unfold bM;by_cases hw:dn p (putN p x)=.kept
 ·rw[ag hw];have hkd:(dq p (putN p x) s).due≠none:=by
   unfold dq;cases hc:pF p (putN p x)with
   |true=>intro z;cases z
   |false=>
    intro z;have z':p.due=none:=z;obtain⟨_,h2,h3⟩:=ok.due z';unfold pF at hc;rw[h2,h3]at hc;cases hc
  have hks:(dq p (putN p x) s).size=p.size/\(dq p (putN p x) s).last=p.last/\(dq p (putN p x) s).kept=p.kept++[(putN p x,s)]:=by
   unfold dq;cases pF p (putN p x)<;>exact⟨rfl,rfl,rfl⟩
  refine⟨⟨fun z=>absurd z hkd,?_,?_,?_,?_⟩,hks.1,?_⟩
  ·show 0<=(dq p (putN p x) s).size;rw[hks.1];exact ok.sz0
  ·show(dq p (putN p x) s).size<=1000;rw[hks.1];exact ok.sz1
  ·show((dq p (putN p x) s).last.length:Int)=(dq p (putN p x) s).size;rw[hks.1,hks.2.1];exact ok.last
  ·intro y hy;show(y.2.length:Int)=(dq p (putN p x) s).size;rw[hks.1];have hy':y∈(dq p (putN p x) s).kept:=hy;rw[hks.2.2]at hy';rcases gO.mp hy' with z|z
   ·exact ok.len y z
   ·simp at z;subst z;exact hs
  ·show(dq p (putN p x) s).kept.length<=_;rw[hks.2.2];simp
 ·rw[av hw];exact⟨⟨ok.due,ok.sz0,ok.sz1,ok.last,ok.len⟩,rfl,pS _⟩
theorem BQ{p:PL}{i:Int}(ok:cw p)(h:(bp i p.kept).isSome=true):((je p i).length:Int)=p.size:=by
 obtain⟨v,hv⟩:=iA.mp h;unfold je;rw[hv];exact ok.len _ (jT hv)
theorem BR{a b:List Int}:(gH a b).length=a.length:=by simp[gH]
theorem Ma{a:List Int}:(lE a).length=a.length:=by simp[lE]
theorem BS{p:PL}:(aT p).size=p.size/\(aT p).kept=p.kept/\(aT p).last=p.last/\(aT p).tally=p.tally/\(aT p).first=p.first/\(aT p).most=p.most:=by
 unfold aT;split<;>exact⟨rfl,rfl,rfl,rfl,rfl,rfl⟩
theorem Mb{p:PL}(ok:cw p):((cv p).length:Int)=p.size:=by
 have ok1:=vW ok;have e:=(BS (p:=p)).1;rw[←e];unfold cv;have hs0:=ok1.sz0;rcases BN ok1.due with w1|⟨_,w3|⟨w3,h1,h2⟩|⟨w3|w3,h1⟩⟩
 ·rw[show aW p=.silent from w1];show(((List.replicate (aT p).size.toNat (0:Int)).length:Nat):Int)=_;rw[wM];omega
 ·rw[show aW p=.lost from w3];show(((lE (aT p).last).length:Nat):Int)=_;rw[Ma];exact ok1.last
 ·rw[show aW p=.joined from w3];show(((gH _ _).length:Nat):Int)=_;rw[BR];exact BQ ok1 h1
 ·rw[show aW p=.stretched from w3];show(((gH _ _).length:Nat):Int)=_;rw[BR];exact ok1.last
 ·rw[show aW p=.played from w3];exact BQ ok1 h1
theorem Mc{p:PL}{w:W}(ok:cw p):cw (cW p w)/\(cW p w).size=p.size/\(cW p w).kept.length<=p.kept.length:=by
 have one:∀{q:PL},cw q->cw (gI q)/\(gI q).size=q.size/\(gI q).kept.length<=q.kept.length:=fun {q} okq=>by
  refine⟨⟨(fun z=>nomatch z),okq.sz0,okq.sz1,okq.last,fun y hy=>?_⟩,rfl,?_⟩
  ·have hy':y∈q.kept.filter fun x=>decide (x.1≠bE q):=hy;exact okq.len y (wI.mp hy').1
  ·show(q.kept.filter _).length<=_;exact List.length_filter_le _ _
 cases w with
 |played=>exact one ok
 |lost=>exact one ok
 |joined=>
  obtain⟨a1,a2,a3⟩:=one ok;obtain⟨b1,b2,b3⟩:=one a1;exact⟨b1,b2.trans a2,eP b3 a3⟩
 |_=>exact⟨ok,rfl,aF _⟩
theorem Md{p:PL}{w:W}(ok:cw p):cw (dH p w)/\(dH p w).size=p.size/\(dH p w).kept=p.kept:=by
 unfold dH;split
 ·exact⟨⟨fun z=>⟨(ok.due z).1,rfl,(ok.due z).2.2⟩,ok.sz0,ok.sz1,ok.last,ok.len⟩,rfl,rfl⟩
 ·exact⟨⟨ok.due,ok.sz0,ok.sz1,ok.last,ok.len⟩,rfl,rfl⟩
theorem Me{p:PL}(ok:cw p):cw (gJ p)/\(gJ p).size=p.size/\(gJ p).kept.length<=p.kept.length:=by
 have ok1:=vW ok;obtain⟨b1,b2,b3,_⟩:=BS (p:=p);have ok2:cw (eU (aT p) (cv p)):=⟨ok1.due,ok1.sz0,ok1.sz1,by show((cv p).length:Int)=(aT p).size;rw[Mb ok,b1],ok1.len⟩
 obtain⟨c1,c2,c3⟩:=Mc (w:=aW p) ok2;obtain⟨d1,d2,d3⟩:=Md (w:=aW p) c1;refine⟨⟨d1.due,d1.sz0,d1.sz1,d1.last,d1.len⟩,(d2.trans c2).trans b1,?_⟩;show(dH _ _).kept.length<=_;rw[d3,←b2];exact c3
theorem At.other{S:aa}{n a b n' a' b':Nat}{p q:PL}(h:At S n a b p)(h1:n≠n'/\n≠a'/\n≠b')(h2:a≠n'/\a≠a'/\a≠b')(h3:b≠n'/\b≠a'/\b≠b'):At (au S n' a' b' q) n a b p:=
 ⟨by rw[re h1.1 h1.2.1 h1.2.2];exact h.hn,by rw[re h2.1 h2.2.1 h2.2.2];exact h.ha,by rw[re h3.1 h3.2.1 h3.2.2];exact h.hb,h.na,h.nb,h.ab⟩
noncomputable def gK(c:Int)(k:Nat):Int:=(c+104729*(k:Int))%4294967291*((c+104729*(k:Int))%4294967291)%4294967279*48271%4294967291
noncomputable def rA(c:Int)(k:Nat)(m:Int):Int:=(gK c k/64*67108864+gK c k*gK c k%4294967279*69621%4294967291/64)%m
theorem Mf{wf n:Nat}{m c:Int}{k:Nat}{S:aa}{x0 x1 x5 x6:Option PV}(hm:0<m):ar (af D wf n) wf (jz.drop 4) [x0,x1,some (.int m),some (.int (k:Int)),some (.int c),x5,x6] S=.ok (.ret (.int (rA c k m))) S:=by
 have h1:∀x:Int,0<=x%4294967291/\x%4294967291<4294967291:=fun x=>by omega
 have a1:=h1 (c+104729*(k:Int));have a2:0<=gK c k/\gK c k<4294967291:=h1 _;have m1:aN S .mul (.int 104729) (.int (k:Int))=.ok (.int (104729*(k:Int))) S:=cu (.inl (by omega));have m2:aN S .mul (.int ((c+104729*(k:Int))%4294967291)) (.int ((c+104729*(k:Int))%4294967291))=.ok (.int ((c+104729*(k:Int))%4294967291*((c+104729*(k:Int))%4294967291))) S:=cu (.inl (by omega));have m3:∀x:Int,aN S .mul (.int x) (.int 48271)=.ok (.int (x*48271)) S:=fun x=>cu (.inr (by omega));have m4:aN S .mul (.int (gK c k)) (.int (gK c k))=.ok (.int (gK c k*gK c k)) S:=cu (.inl (by omega));have m5:∀x:Int,aN S .mul (.int x) (.int 69621)=.ok (.int (x*69621)) S:=fun x=>cu (.inr (by omega));have m6:∀x:Int,aN S .mul (.int x) (.int 67108864)=.ok (.int (x*67108864)) S:=fun x=>cu (.inr (by omega));have q1:∀x:Int,aN S .mod (.int x) (.int 4294967291)=.ok (.int (x%4294967291)) S:=fun x=>gD (by omega);have q2:∀x:Int,aN S .mod (.int x) (.int 4294967279)=.ok (.int (x%4294967279)) S:=fun x=>gD (by omega);have q3:∀x:Int,aN S .fdiv (.int x) (.int 64)=.ok (.int (x/64)) S:=fun x=>i_ (by omega);have eA:(c+104729*(k:Int))%4294967291*((c+104729*(k:Int))%4294967291)%4294967279*48271%4294967291=gK c k:=by unfold gK;rfl
 simp only[jz,qd,iC,mh,k6,oy,oA,oC,oE,oF,oG,oH,oI,oJ,oK,oM,oN,oO,oP,oQ,nI,nJ,nK,nL,nM,nN,nO,nP,nQ,nR,nS,nU,nV,nW,nX,nY,nZ,n0,n_,oa,og,oh,oi,oj,om,oo,oq,kZ,ou,ow,md,mf,ac.bind_ok,ac.andF_ok,List.getElem?_cons_zero,List.getElem?_cons_succ,List.set_cons_zero,List.set_cons_succ,A9,m1,m2,m3,q1,q2,q3,eA,m4,m5,m6,gD hm];unfold rA;rfl
theorem rB{wf n:Nat}{ns:List Int}{m:Int}{k:Nat}{rest:aa}(hm:0<m)(hk:k<aj):∃v:Int,(0<=v/\v<m)/\af D wf (n+1) 47 [.lst (ns.map PV.int),.ref 0,.int m] (.lst (zs k)::rest)=.ok (.int v) (.lst (zs (k+1))::rest):=by
 have key:∃c:Int,ar (af D wf n) wf (jz.take 4) [some (.lst (ns.map PV.int)),some (.ref 0),some (.int m),none,none,none,none] (.lst (zs k)::rest)=.ok (.next [some (.lst (ns.map PV.int)),some (.ref 0),some (.int m),some (.int ((k+1:Nat):Int)),some (.int c),none,none]) (.lst (zs (k+1))::rest):=by
  by_cases hn:ns=[]
  ·subst hn;refine⟨0,?_⟩;simp only[jz,List.take_succ_cons,List.take_zero,ez,mh,k6,oy,oA,oC,oE,oF,oG,oH,oI,oJ,oK,oM,oN,oO,oP,oQ,nI,nJ,nK,nL,nM,nN,nO,nP,nQ,nR,nS,nU,nV,nW,nX,nY,nZ,n0,n_,oa,og,oh,oi,oj,om,oo,oq,kZ,ou,ow,md,mf,ox,jK,ac.bind_ok,ac.andF_ok,List.getElem?_cons_zero,List.getElem?_cons_succ,List.set_cons_zero,List.set_cons_succ,Bg hk,vA,Bh,Bd,List.isEmpty_nil,gZ]
  ·have hp:0<ns.length:=List.length_pos_iff.mpr hn;obtain⟨c,hc⟩:=KM (ns:=ns) (k:=((k+1:Nat):Int)%(ns.length:Nat)) (DJ _ (by omega)) (DK _ (by omega));have he:(ns.map PV.int).isEmpty=false:=by
    cases ns with
    |nil=>exact absurd rfl hn
    |cons _ _=>rfl
   have hmo:∀S x,aN S .mod (.int x) (.int (ns.length:Nat))=.ok (.int (x%(ns.length:Nat))) S:=fun S x=>gD (by omega);refine⟨c,?_⟩;simp only[jz,List.take_succ_cons,List.take_zero,mh,k6,oy,oA,oC,oE,oF,oG,oH,oI,oJ,oK,oM,oN,oO,oP,oQ,nI,nJ,nK,nL,nM,nN,nO,nP,nQ,nR,nS,nU,nV,nW,nX,nY,nZ,n0,n_,oa,og,oh,oi,oj,om,oo,oq,kZ,ou,ow,md,mf,ox,jK,ac.bind_ok,ac.andF_ok,List.getElem?_cons_zero,List.getElem?_cons_succ,List.set_cons_zero,List.set_cons_succ,Bg hk,vA,Bh,Bd,he,iF,vw,aw,hmo,lr hc]
 obtain⟨c,hc⟩:=key;refine⟨rA c (k+1) m,⟨DJ _ (Int.ne_of_gt hm),DK _ hm⟩,(aO (d:=yB.d) (p:=.int (rA c (k+1) m)) (S1:=.lst (zs (k+1))::rest) rfl rfl ?_).trans (vC (fG _ _))⟩;show ar (af D wf n) wf jz [some (.lst (ns.map PV.int)),some (.ref 0),some (.int m),none,none,none,none] (.lst (zs k)::rest)=_;rw[←ke 4 jz,lu hc];exact Mf hm
theorem Mg{wf n:Nat}{ns:List Int}{xs:List PV}{k:Nat}{rest:aa}(hx:0<xs.length)(hb:∀x∈xs,below (rest.length+1) x=true)(hk:k<aj):∃x∈xs,af D wf (n+2) 48 [.lst (ns.map PV.int),.ref 0,.lst xs] (.lst (zs k)::rest)=.ok x (.lst (zs (k+1))::rest):=by
 obtain⟨v,⟨h0,h1⟩,hv⟩:=rB (wf:=wf) (n:=n) (ns:=ns) (m:=(xs.length:Nat)) (k:=k) (rest:=rest) (by omega) hk;obtain⟨x,hm,hi⟩:=KN h0 h1;refine⟨x,hm,(aO (d:=yC.d) (p:=x) (S1:=.lst (zs (k+1))::rest) rfl rfl ?_).trans (vC (hb x hm))⟩;show ar (af D wf (n+1)) wf tH [some (.lst (ns.map PV.int)),some (.ref 0),some (.lst xs)] (.lst (zs k)::rest)=_
 simp_arith[tH,hv,lr hi]
theorem Mh{wf n:Nat}{ns:List Int}{k m:Nat}{rest:aa}(hm:m<=1000)(hk:k+1*m<aj):∃(ss:List Int)(l:Nat),ss.length=m/\(∀s∈ss,-1000<=s/\s<=1000)/\l<=k+1*m/\af D wf (n+2) 49 [.lst (ns.map PV.int),.ref 0,.int m] (.lst (zs k)::rest)=.ok (TI ss) (.lst (zs l)::rest):=by
 have hL:aj=16777216:=rfl;obtain⟨ps,l,h1,h2,h3,h4⟩:=vF (f:=ae (af D wf (n+1)) (.bin .sub (.call 47 [.loc 1,.loc 2,.cst (.int 2001)]) (.cst (.int 1000)))) (tg:=.one 0) (rest:=rest) (c:=1) (fun p=>∃i:Int,p=.int i/\(-1000<=i/\i<=1000)) (fun ro=>∃a,ro=[a,some (.lst (ns.map PV.int)),some (.ref 0)]) (bI 0 m) k (by rw[ja];exact hk) (fun x hx ro j hj ⟨a,hro⟩=>by
  subst hro;obtain⟨v,hv,hc⟩:=rB (wf:=wf) (n:=n) (ns:=ns) (m:=2001) (k:=j) (rest:=rest) (by decide) (by omega);exact⟨_,.int (v-1000),j+1,rfl,by simp_arith[hc],⟨_,rfl,by omega⟩,aF _,_,rfl⟩) [none,some (.lst (ns.map PV.int)),some (.ref 0)] ⟨_,rfl⟩
 rw[ja]at h2 h4;obtain⟨ss,rfl,hs⟩:=Bu ps h3;rw[aw]at h2;refine⟨ss,l,h2,hs,h4,(aO (d:=yD.d) (p:=TI ss) (S1:=.lst (zs l)::rest) rfl rfl ?_).trans (vC (jd _ _))⟩;show ar (af D wf (n+1)) wf tI [some (.lst (ns.map PV.int)),some (.ref 0),some (.int m)] (.lst (zs k)::rest)=_;rw[tI]
 simp_arith[eJ (show -(2 ^ 62)<=(m:Int)/\(m:Int)<2 ^ 62 by omega),Int.toNat_natCast,bt,Option.getD_some];rw[h1]
 simp_arith[aw,ag (show ss.length<=aj by omega)];rfl
theorem At.setm{S:aa}{n a b m:Nat}{p:PL}{x:MO}(h:At S n a b p)(h1:m≠n)(h2:m≠a)(h3:m≠b):At (S.set m x) n a b p:=
 ⟨by rw[fw h1];exact h.hn,by rw[fw h2];exact h.ha,by rw[fw h3];exact h.hb,h.na,h.nb,h.ab⟩
theorem At.app{S T:aa}{n a b:Nat}{p:PL}(h:At S n a b p):At (S++T) n a b p:=by
 obtain⟨l1,l2,l3⟩:=h.lt;exact⟨by rw[dI l1];exact h.hn,by rw[dI l2];exact h.ha,by rw[dI l3];exact h.hb,h.na,h.nb,h.ab⟩
noncomputable abbrev Tn(S:aa)(k:Nat):Prop:=S[0]?=some (.lst (zs k))
noncomputable def tn(S:aa)(k:Nat):aa:=S.set 0 (.lst (zs k))
theorem Mi{S:aa}{k:Nat}:(tn S k).length=S.length:=by simp[tn]
theorem pH{S:aa}{k:Nat}(h:Tn S k):S=.lst (zs k)::S.tail:=by
 cases S with
 |nil=>cases h
 |cons x S=>
  have h':some x=some (MO.lst (zs k)):=h;cases h';rfl
theorem lG{S:aa}{k l:Nat}(h:Tn S k):tn S l=.lst (zs l)::S.tail:=by
 cases S with
 |nil=>cases h
 |cons x S=>rfl
theorem mQ{S:aa}{k l:Nat}(h:Tn S k):Tn (tn S l) l:=by rw[lG h];rfl
theorem BU{S:aa}{k l:Nat}:tn (tn S k) l=tn S l:=by unfold tn;rw[List.set_set]
theorem At.tn{S:aa}{n a b l:Nat}{p:PL}(h:At S n a b p)(h0:0<n/\0<a/\0<b):At (tn S l) n a b p:=h.setm (by omega) (by omega) (by omega)
theorem BV{S:aa}{k n a b:Nat}{p:PL}(h:Tn S k)(h0:0<n/\0<a/\0<b):Tn (au S n a b p) k:=by
 show(au S n a b p)[0]?=_;rw[re (by omega) (by omega) (by omega)];exact h
theorem rC{wf n:Nat}{ns:List Int}{m:Int}{k:Nat}{S:aa}(h:Tn S k)(hm:0<m)(hk:k<aj):∃v:Int,(0<=v/\v<m)/\af D wf (n+1) 47 [.lst (ns.map PV.int),.ref 0,.int m] S=.ok (.int v) (tn S (k+1)):=by
 obtain⟨v,hv,hc⟩:=rB (wf:=wf) (n:=n) (ns:=ns) (m:=m) (k:=k) (rest:=S.tail) hm hk;rw[←pH h,←lG h]at hc;exact⟨v,hv,hc⟩
theorem BW{wf n:Nat}{ns:List Int}{k m:Nat}{S:aa}(h:Tn S k)(hm:m<=1000)(hk:k+m<aj):∃(ss:List Int)(l:Nat),ss.length=m/\(∀s∈ss,-1000<=s/\s<=1000)/\l<=k+m/\af D wf (n+2) 49 [.lst (ns.map PV.int),.ref 0,.int m] S=.ok (TI ss) (tn S l):=by
 obtain⟨ss,l,h1,h2,h3,hc⟩:=Mh (wf:=wf) (n:=n) (ns:=ns) (m:=m) (k:=k) (rest:=S.tail) hm (by omega);rw[←pH h,←lG h]at hc;exact⟨ss,l,h1,h2,by omega,hc⟩
theorem Mj{wf n:Nat}{ns is:List Int}{k:Nat}{S:aa}(h:Tn S k)(hx:0<is.length)(hk:k<aj):∃i∈is,af D wf (n+2) 48 [.lst (ns.map PV.int),.ref 0,.lst (is.map PV.int)] S=.ok (.int i) (tn S (k+1)):=by
 obtain⟨x,hm,hc⟩:=Mg (wf:=wf) (n:=n) (ns:=ns) (xs:=is.map PV.int) (k:=k) (rest:=S.tail) (by rw[aw];exact hx) (fun x hx=>by
  obtain⟨i,_,rfl⟩:=bc.mp hx;exact fG _ _) hk
 rw[←pH h,←lG h]at hc;obtain⟨i,hi,rfl⟩:=bc.mp hm;exact⟨i,hi,hc⟩
noncomputable def d_(S:aa)(size first most:Int):aa:=S++[bR (dg size first most) (S.length+1) (S.length+2),.dct [],.dct (fI fun _=>0)]
theorem pI{S:aa}{size first most:Int}:(d_ S size first most).length=S.length+3:=by simp[d_]
theorem vY{S:aa}{size first most:Int}:At (d_ S size first most) S.length (S.length+1) (S.length+2) (dg size first most):=L8
theorem vZ{S:aa}{k:Nat}{size first most:Int}(h:Tn S k):Tn (d_ S size first most) k:=by
 rw[Tn,d_,dI (bF.mp h).1];exact h
theorem v_{wf k:Nat}{S:aa}{size first most:Int}(h0:0<=size)(h1:size<=1000):kY S.length (af D wf (k+1) 28 [.ref S.length,.int size,.int first,.int most] (S++[.ins am []]))=.ok (.ref S.length) (d_ S size first most):=by
 rw[L7 h0 h1];rfl
theorem Ml{S:aa}{x y:List Int}:aK S .ne (TI x) (TI y)=.ok (.bl (!b_ (TI x) (TI y))) S:=ag (gR.mpr ⟨iq 59 x,iq 59 y⟩)
theorem Mm(l:List Int):b_ (TI l) (TI l)=true:=(qU l l).trans (fx l)
theorem wa{S:aa}{x:List Int}:aK S .ne (TI x) (TI x)=.ok (.bl false) S:=by rw[Ml,Mm];rfl
structure T2(S:aa)(k n m:Nat)(p q:PL):Prop where
 tw:Tn S k
 one:At S n (n+1) (n+2) p
 two:At S m (m+1) (m+2) q
 h0:0<n
 h1:n+2<m
section
variable{S:aa}{k n m:Nat}{p q:PL}(h:T2 S k n m p q)
include h
theorem Mn(l:Nat):T2 (tn S l) l n m p q:=by
 have h0:=h.h0;have h1:=h.h1;exact⟨mQ h.tw,h.one.tn (by omega),h.two.tn (by omega),h0,h1⟩
theorem Mp(p':PL):T2 (au S n (n+1) (n+2) p') k n m p' q:=by
 have h0:=h.h0;have h1:=h.h1;exact⟨BV h.tw (by omega),h.one.of p',h.two.other (by omega) (by omega) (by omega),h0,h1⟩
theorem Mq(q':PL):T2 (au S m (m+1) (m+2) q') k n m p q':=by
 have h0:=h.h0;have h1:=h.h1;exact⟨BV h.tw (by omega),h.one.other (by omega) (by omega) (by omega),h.two.of q',h0,h1⟩
end
theorem Mr{S:aa}{k:Nat}{s1 f1 m1 s2 f2 m2:Int}(h:Tn S k):T2 (d_ (d_ S s1 f1 m1) s2 f2 m2) k S.length (S.length+3) (dg s1 f1 m1) (dg s2 f2 m2):=by
 have hp:0<S.length:=(bF.mp h).1;refine⟨vZ (vZ h),vY.app,?_,hp,by omega⟩;have:=vY (S:=d_ S s1 f1 m1) (size:=s2) (first:=f2) (most:=m2)
 rw[pI]at this;exact this
inductive DD where|take (x:Int)|put (x:Int) (ss:List Int)
noncomputable def DD.v:DD->PV
 |.take x=>.tup [.str jA,.int x,.tup []]
 |.put x ss=>.tup [.str jB,.int x,TI ss]
noncomputable def DD.ok(sz:Nat):DD->Prop
 |.take _=>True
 |.put x ss=>ss.length=sz/\(∀s∈ss,-1000<=s/\s<=1000)/\0<=x/\x<65536
noncomputable def DD.word(p:PL):DD->PV
 |.take _=>TI (cv p)
 |.put x _=>.str (dn p (putN p x)).s
noncomputable def DD.step(p:PL):DD->PL
 |.take _=>gJ p
 |.put x ss=>bM p x ss
theorem wb:PyData.strOk jA=true:=by decide +kernel
theorem Ms:PyData.strOk jB=true:=by decide +kernel
theorem Mt{sz:Nat}{d:DD}{p:PL}(hd:d.ok sz)(ok:cw p)(hs:p.size=sz):cw (d.step p)/\(d.step p).size=sz/\(d.step p).kept.length<=p.kept.length+1:=by
 cases d with
 |take x=>
  obtain⟨h1,h2,h3⟩:=Me ok;exact⟨h1,h2.trans hs,Nat.le_succ_of_le h3⟩
 |put x ss=>
  obtain⟨h1,h2,h3⟩:=L_ (x:=x) (s:=ss) ok (by rw[hd.1,hs]);exact⟨h1,h2.trans hs,h3⟩
theorem Mu{k:Nat}{d:DD}:below k d.v=true:=by
 cases d with
 |take x=>rfl
 |put x ss=>
  show bz k [.str jB,.int x,TI ss]=true;simp only[bz,below,jd,gY]
theorem Mv{k:Nat}{d:DD}{p:PL}:below k (d.word p)=true:=by
 cases d with
 |take x=>exact jd _ _
 |put x ss=>exact rm _ _
theorem BX{wf k:Nat}{S:aa}{n a b sz:Nat}{p:PL}{d:DD}(h:At S n a b p)(ok:cw p)(hd:d.ok sz)(hs:p.size=sz)(hl:p.kept.length<aj):af D wf (k+4) 51 [.ref n,d.v] S=.ok (d.word p) (au S n a b (d.step p)):=by
 refine(aO (d:=yF.d) (p:=d.word p) (S1:=au S n a b (d.step p)) rfl rfl ?_).trans (j8 lC Mv);show ar (af D wf (k+3)) wf qk [some (.ref n),some d.v] S=_;have m1:bJ S am jA (.ref n)=.ok (.ref n) S:=fL h rfl;have m2:bJ S am jB (.ref n)=.ok (.ref n) S:=fL h rfl;cases d with
 |take x=>
  have c1:=L3 (wf:=wf) (k:=k) h ok;have i0:aU S (DD.take x).v (.int 0)=.ok (.str jA) S:=bA rfl
  simp_arith[qk,i0,eq_str wb wb,fx,m1,c1];rfl
 |put x ss=>
  have c1:=LO (wf:=wf) (k:=k+1) (x:=x) (l:=ss) h ok.due (by rw[hd.1,hs]) hl;have i0:aU S (DD.put x ss).v (.int 0)=.ok (.str jB) S:=bA rfl;have i1:aU S (DD.put x ss).v (.int 1)=.ok (.int x) S:=bA rfl;have i2:aU S (DD.put x ss).v (.int 2)=.ok (TI ss) S:=bA rfl;have hb:(jB==jA)=false:=by decide +kernel
  simp_arith[qk,i0,eq_str Ms wb,hb,m2,i1,i2,c1,jM];rfl
theorem Mw{wf n:Nat}{ns:List Int}{k sz:Nat}{here:Int}{S:aa}(h:Tn S k)(hs:sz<=20)(hk:k+30<aj):∃(d:DD)(l:Nat),d.ok sz/\(∀x,d=.take x->x=0)/\l<=k+2+sz/\af D wf (n+3) 50 [.lst (ns.map PV.int),.ref 0,.int here,.int sz] S=.ok d.v (tn S l):=by
 have hL:aj=16777216:=rfl;obtain⟨v,hv,c1⟩:=rC (wf:=wf) (n:=n+1) (ns:=ns) (m:=5) h (by decide) (by omega);have h1:Tn (tn S (k+1)) (k+1):=mQ h;have key:∃(d:DD)(l:Nat),d.ok sz/\(∀x,d=.take x->x=0)/\l<=k+2+sz/\ar (af D wf (n+2)) wf qj [some (.lst (ns.map PV.int)),some (.ref 0),some (.int here),some (.int sz),none] S=.ok (.ret d.v) (tn S l):=by
  by_cases hc:v<2
  ·refine⟨.take 0,k+1,trivial,fun x hx=>?_,by omega,?_⟩
   ·cases hx;rfl
   ·simp_arith[qj,c1,gP hc];rfl
  ·obtain⟨i,_,c2⟩:=Mj (wf:=wf) (n:=n) (ns:=ns) (is:=[0,0,1,1,2,3,-1,-2,5,12,40]) h1 (by decide) (by omega);rw[BU]at c2;have h2:Tn (tn S (k+1+1)) (k+1+1):=mQ h;obtain⟨ss,l,e1,e2,e3,c3⟩:=BW (wf:=wf) (n:=n) (ns:=ns) (m:=sz) h2 (by omega) (by omega);rw[BU]at c3;have c2':af D wf (n+2) 48 [.lst (ns.map PV.int),.ref 0,.lst [.int 0,.int 0,.int 1,.int 1,.int 2,.int 3,.int (-1),.int (-2),.int 5,.int 12,.int 40]] (tn S (k+1))=.ok (.int i) (tn S (k+1+1)):=c2;refine⟨.put (here+i-(here+i)/65536*65536) ss,l,⟨e1,e2,by omega,by omega⟩,(fun x hx=>nomatch hx),by omega,?_⟩;have m1:∀T x,aN T .mul (.int x) (.int 65536)=.ok (.int (x*65536)) T:=fun T x=>cu (.inr (by omega));have q1:∀T x,aN T .fdiv (.int x) (.int 65536)=.ok (.int (x/65536)) T:=fun T x=>i_ (by omega)
   simp_arith[qj,c1,eN hc,ag (show(11:Nat)<=aj by decide),List.length_cons,List.length_nil,c2',m1,q1,c3,ag (show(3:Nat)<=aj by decide)];rfl
 obtain⟨d,l,k1,k2,k3,k4⟩:=key;refine⟨d,l,k1,k2,k3,(aO (d:=yE.d) (p:=d.v) (S1:=tn S l) rfl rfl k4).trans (j8 Mi Mu)⟩
theorem we{wf n:Nat}{x:Int}{S:aa}:af D wf (n+1) 11 [.int x] S=.ok (.tup ((dX x).map PV.int)) S:=by
 refine(aO (d:=xJ.d) (p:=.tup ((dX x).map PV.int)) (S1:=S) rfl rfl ?_).trans (ba (gC _ _));show ar (af D wf n) wf sH [some (.int x)] S=_
 simp_arith[sH,gD (show(0:Int)<256 by decide),i_ (show(0:Int)<256/\(256:Int)<1073741824 by decide)];rfl
theorem getD_at{xs:List Int}{i:Nat}(h:i<xs.length):bn (xs.map PV.int) (i:Int)=some (.int (xs.getD i 0)):=by
 refine j5 ?_;rw[bG,cJ,a6 h];rfl
theorem BY{wf n:Nat}{row:List Int}{k:Nat}{S:aa}(h:k+1<row.length):af D wf (n+1) 12 [.tup (row.map PV.int),.int k] S=.ok (.int (row.getD k 0*256+row.getD (k+1) 0)) S:=by
 refine(aO (d:=xK.d) (p:=.int (row.getD k 0*256+row.getD (k+1) 0)) (S1:=S) rfl rfl ?_).trans (ba (fG _ _));show ar (af D wf n) wf sI [some (.tup (row.map PV.int)),some (.int k)] S=_;have e:(k:Int)+1=((k+1:Nat):Int):=by push_cast;rfl
 simp_arith[sI,bA (getD_at (show k<row.length by omega))];rw[cu (.inr (by decide))]
 simp_arith[e,bA (getD_at h)]
theorem Mx{wf n:Nat}{p:PV}{xs:List Int}{S:aa}(h:aE S p=some (xs.map PV.int))(hl:xs.length<=aj):af D wf (n+1) 13 [p] S=.ok (.int (mJ 1 xs%257)) S:=by
 refine(aO (d:=xL.d) (p:=.int (mJ 1 xs%257)) (S1:=S) rfl rfl ?_).trans (ba (fG _ _));show ar (af D wf n) wf sJ [some p] S=_
 simp_arith[sJ,KS h (show(0:Int)<=1/\(1:Int)<4611686018427387904 by decide),bt];rw[Bj (KP S p) Bp (fun ro=>∃a b,ro=[a,b]) _ (fun x hx ro ⟨a,b,hro⟩=>by
  subst hro;obtain⟨i,y,rfl,hy,h1,h2⟩:=Bl _ _ _ hx;obtain⟨z,_,rfl⟩:=bc.mp hy;refine⟨[some (.int i),some (.int z)],rfl,?_,_,_,rfl⟩;rw[aw]at h2;have hL:aj=16777216:=rfl
  simp_arith[aL];rw[cu (.inl ⟨by omega,by omega⟩)];rfl) _ ⟨_,_,rfl⟩,Bq]
 simp_arith[aw,Bo,ag hl,vD,Bm,gD (show(0:Int)<257 by decide)]
theorem BZ{wf n:Nat}{x:Int}{ss:List Int}{S:aa}(hl:ss.length<=1000):af D wf (n+2) 14 [.int x,.tup (ss.map PV.int)] S=.ok (.tup ((dE x ss).map PV.int)) S:=by
 refine(aO (d:=xM.d) (p:=.tup ((dE x ss).map PV.int)) (S1:=S++[.lst ((dE x ss).map PV.int)]) rfl rfl ?_).trans (vr (gC _ _));show ar (af D wf (n+1)) wf sL [some (.int x),some (.tup (ss.map PV.int)),none,none] S=_;have hL:aj=16777216:=rfl;rw[sL]
 simp_arith[we,KQ];rw[vy (by rw[aw];show 2<aj;decide)]
 simp_arith[aL];have e0:(dX x).map PV.int++[PV.int ((ss.map PV.int).length:Int)]=(dX x++[(ss.length:Int)]).map PV.int:=by simp
 rw[e0];obtain⟨ro',S',h1,⟨v,rfl⟩,rfl⟩:=i9 (f:=ar (af D wf (n+1)) wf sK) (tg:=.one 3) (ck:=none)
  (fun i ro S'=>(∃v,ro=[some (.int x),some (.tup (ss.map PV.int)),some (.ref S.length),v])/\S'=S++[.lst ((dX x++[(ss.length:Int)]++(ss.take i).flatMap fun s=>dX (s+1000)).map PV.int)])
  (ss.map PV.int) 0 (fun i y ro S1 hi ⟨⟨v,hro⟩,hS⟩=>by
   subst hro;subst hS;rw[bG]at hi;cases e:ss[i]? with
   |none=>rw[e]at hi;cases hi
   |some s=>
    rw[e]at hi;cases hi;have hil:i<ss.length:=(bF.mp e).1;refine⟨bL _,_,.next [some (.int x),some (.tup (ss.map PV.int)),some (.ref S.length),some (.int s)],_,rfl,?_,_,.inl rfl,⟨some (.int s),rfl⟩,rfl⟩
    simp_arith[sK,we,gX];rw[Bk (by
     rw[aw,aw,en,qV,kg];show 3+_+2<=aj;omega)]
    simp_arith[aL];congr 4;rw[←kq];congr 1;rw[nj,e];simp[List.flatMap_append]) (fun _ _ _=>bL _)
  [some (.int x),some (.tup (ss.map PV.int)),some (.ref S.length),none] (S++[.lst ((dX x++[(ss.length:Int)]).map PV.int)]) ⟨⟨none,rfl⟩,by simp⟩
 rw[h1];have e1:dX x++[(ss.length:Int)]++(ss.take (0+(ss.map PV.int).length)).flatMap (fun s=>dX (s+1000))=mK x ss:=by
  rw[gX,aw,m_];rfl
 rw[e1]
 simp_arith[aL];rw[Mx KR (by rw[qW];omega)]
 simp_arith[we];rw[Bk (by rw[aw,aw,qW];show 3+2*ss.length+2<=aj;omega),←kq]
 simp_arith[Ba];rfl
theorem Mz{wf n:Nat}{row:List Int}{S:aa}:af D wf (n+1) 15 [.tup (row.map PV.int)] S=.ok (.bl (ir row)) S:=by
 refine(aO (d:=xN.d) (p:=.bl (ir row)) (S1:=S) rfl rfl ?_).trans (ba (vt _ _));show ar (af D wf n) wf sM [some (.tup (row.map PV.int)),none] S=_
 simp_arith[sM,aw];by_cases h:(row.length:Int)<5
 ·simp_arith[h,sj,ir,gZ,jj]
 ·have h2:2<row.length:=by omega
  have e2:bn (row.map PV.int) 2=some (.int (eK row)):=getD_at h2
  simp_arith[h,decide_false,bA e2];rw[cu (.inl (by decide))]
  simp_arith[ir,h,decide_false,iF,ko];cases decide (eK row<=16)<;>simp_arith[jj,ko,aw]
theorem MA{wf n:Nat}{row:List Int}{S:aa}(h:ir row=true):af D wf (n+2) 16 [.tup (row.map PV.int)] S=.ok (.tup ((dY row).map PV.int)) S:=by
 obtain⟨h1,h2,h3⟩:=qY.mp h;refine(aO (d:=xO.d) (p:=.tup ((dY row).map PV.int)) (S1:=S) rfl rfl ?_).trans (ba (gC _ _));show ar (af D wf (n+1)) wf sN [some (.tup (row.map PV.int)),none] S=_;have e2:bn (row.map PV.int) 2=some (.int (eK row)):=getD_at (show 2<row.length by omega);have hL:aj=16777216:=rfl;have hr:eK row=((eK row).toNat:Int):=by omega
 simp_arith[sN,bA e2,eJ (show -(2 ^ 62)<=eK row/\eK row<2 ^ 62 by omega),bt];rw[pp (j7 fun i=>.int (3+2*i)) (fun ro=>∃a,ro=[a]) _ (fun x hx ro ⟨a,hro⟩=>by
  subst hro;obtain⟨k,hk,rfl⟩:=KZ hx;refine⟨[some (.int k)],rfl,?_,_,rfl⟩
  simp_arith[aL];rw[cu (.inl (by decide))];rfl) _ ⟨_,rfl⟩,KY (f:=fun i=>3+2*i)]
 simp_arith[aw,du,ag (show(eK row).toNat<=aj by omega),Option.getD_some];rw[pp (j7 fun i=>.int (row.getD i.toNat 0*256+row.getD (i.toNat+1) 0-1000)) (fun ro=>∃a,ro=[a,some (.tup (row.map PV.int))]) _ (fun x hx ro ⟨a,hro⟩=>by
  subst hro;obtain⟨z,hz,rfl⟩:=bc.mp hx;obtain⟨k,hk,rfl⟩:=bc.mp hz;have hk:=gh.mp hk;refine⟨[some (.int (3+2*(k:Int))),some (.tup (row.map PV.int))],rfl,?_,_,rfl⟩;have e:(3+2*(k:Int))=((3+2*k:Nat):Int):=by push_cast;rfl
  simp_arith[e,BY (show 3+2*k+1<row.length by omega),Int.toNat_natCast,Br]) _ ⟨_,rfl⟩]
 have hs:List.map (j7 fun i=>.int (row.getD i.toNat 0*256+row.getD (i.toNat+1) 0-1000)) (((List.range (eK row).toNat).map fun(k:Nat)=>3+2*(k:Int)).map PV.int)=(dY row).map PV.int:=by
  unfold dY;rw[cK,cK,cK];refine xC fun k _=>?_;have e:(3+2*(k:Int)).toNat=3+2*k:=by omega
  show PV.int (row.getD (3+2*(k:Int)).toNat 0*256+row.getD ((3+2*(k:Int)).toNat+1) 0-1000)=PV.int (row.getD (3+2*k) 0*256+row.getD (3+2*k+1) 0-1000);simp only[e]
 rw[hs]
 simp_arith[aw,dY,du,ag (show(eK row).toNat<=aj by omega)]
theorem MB{row:List Int}(h:ir row=true):(dY row).length<=16:=by
 obtain⟨h1,h2,h3⟩:=qY.mp h;unfold dY;rw[aw,du];omega
theorem MC{wf n:Nat}{row:List Int}{S:aa}(h:qX row=true):af D wf (n+3) 17 [.tup (row.map PV.int)] S=.ok (.tup [.int (mL row),.tup ((dY row).map PV.int)]) S:=by
 refine(aO (d:=xP.d) (p:=.tup [.int (mL row),.tup ((dY row).map PV.int)]) (S1:=S) rfl rfl ?_).trans (ba vE);show ar (af D wf (n+2)) wf sP [some (.tup (row.map PV.int)),none,none] S=_;unfold qX at h;simp only[aG,kn]at h;obtain⟨hf,ha,hb⟩:=h;obtain⟨h1,h2,h3⟩:=qY.mp hf;have hL:aj=16777216:=rfl;have hsl:=MB hf;have e0:=BY (wf:=wf) (n:=n+1) (S:=S) (show 0+1<row.length by omega)
 simp_arith[sP,Mz,hf];rw[show((0:Nat):Int)=0 from rfl]at e0;rw[e0]
 simp_arith[MA hf,bt];rw[pp (j7 fun i=>.bl (decide (1000<i))) (fun ro=>∃a,ro=[a]) _ (fun x hx ro ⟨a,hro⟩=>by
  subst hro;obtain⟨z,_,rfl⟩:=bc.mp hx;exact⟨[some (.int z)],rfl,by simp_arith[gt_int,Br],_,rfl⟩) _ ⟨_,rfl⟩]
 have hm:List.map (j7 fun i=>.bl (decide (1000<i))) ((dY row).map PV.int)=(dY row).map fun s=>PV.bl (decide (1000<s)):=KW;rw[hm]
 simp_arith[aw,ag (show(dY row).length<=aj by omega),ha];rw[show row.getD 0 0*256+row.getD (0+1) 0=mL row from rfl,BZ (by omega)]
 simp_arith[KO,hb]
theorem MD{wf n:Nat}{xs:List Int}{S:aa}(hl:xs.length<=aj):af D wf (n+1) 10 [.tup (xs.map PV.int)] S=.ok (.tup ((xs.map (·%65536)).map PV.int)) S:=by
 refine(aO (d:=xI.d) (p:=.tup ((xs.map (·%65536)).map PV.int)) (S1:=S) rfl rfl ?_).trans (ba (gC _ _));show ar (af D wf n) wf sG [some (.tup (xs.map PV.int))] S=_
 simp_arith[sG,bt];rw[pp (fun x=>match x with|.int i=>.int (i%65536)|p=>p) (fun ro=>∃a,ro=[a]) _ (fun x hx ro ⟨a,hro⟩=>by
  subst hro;obtain⟨z,_,rfl⟩:=bc.mp hx;refine⟨[some (.int z)],rfl,?_,_,rfl⟩
  simp_arith[gD (show(0:Int)<65536 by decide)]) _ ⟨_,rfl⟩]
 simp_arith[aw,hl,aL,cK];rfl
noncomputable def gA(acc:List Int)(s:Int):List Int:=acc++[match acc.getLast? with|some l=>mP l s|none=>s]
noncomputable def cX(xs:List Int):List Int:=xs.foldl gA []
theorem ME(xs:List Int)(x:Int):cX (xs++[x])=gA (cX xs) x:=by unfold cX;rw[List.foldl_append];rfl
theorem B0:∀(xs acc:List Int),(xs.foldl gA acc).length=acc.length+xs.length
 |[],acc=>rfl
 |x::xs,acc=>by rw[List.foldl_cons,B0 xs];simp[gA];omega
theorem MF(xs:List Int):(cX xs).length=xs.length:=by unfold cX;rw[B0];simp
theorem take_snoc{α:Type}{xs:List α}{i:Nat}{x:α}(h:xs[i]?=some x):xs.take (i+1)=xs.take i++[x]:=by
 rw[nj,h];rfl
theorem MG{xs:List Int}{i:Nat}{x:Int}(h:xs[i]?=some x):cX (xs.take (i+1))=gA (cX (xs.take i)) x:=by rw[take_snoc h,ME]
theorem MH{wf n:Nat}{xs:List Int}{S:aa}(hl:xs.length<aj):af D wf (n+2) 9 [.tup (xs.map PV.int)] S=.ok (.tup ((cX xs).map PV.int)) S:=by
 refine(aO (d:=r9.d) (p:=.tup ((cX xs).map PV.int)) (S1:=S++[.lst ((cX xs).map PV.int)]) rfl rfl ?_).trans (vr (gC _ _));show ar (af D wf (n+1)) wf b9 [some (.tup (xs.map PV.int)),none,none] S=_
 simp_arith[b9,List.length_nil,jl,aL];obtain⟨ro',S',h1,⟨v,h2⟩,h3⟩:=i9 (f:=ar (af D wf (n+1)) wf sF) (tg:=.one 2) (ck:=none)
  (fun i ro S'=>(∃v,ro=[some (.tup (xs.map PV.int)),some (.ref S.length),v])/\S'=S++[.lst ((cX (xs.take i)).map PV.int)]) (xs.map PV.int) 0 (fun i x ro S' hx ⟨⟨v,hro⟩,hS⟩=>by
   subst hro;subst hS;rw[gX];rw[bG]at hx;cases e:xs[i]? with
   |none=>rw[e]at hx;cases hx
   |some y=>
    rw[e]at hx;cases hx;have hi:i<xs.length:=(bF.mp e).1;refine⟨bL _,_,.next [some (.tup (xs.map PV.int)),some (.ref S.length),some (.int y)],S++[.lst ((cX (xs.take (i+1))).map PV.int)],rfl,?_,_,.inl rfl,⟨_,rfl⟩,rfl⟩;have hll:((cX (xs.take i)).map PV.int).length<aj:=by rw[aw,MF,kg];omega
    rw[MG e]
    simp_arith[sF,KF];cases e2:(cX (xs.take i)).getLast? with
    |none=>
     have e3:cX (xs.take i)=[]:=List.getLast?_eq_none_iff.mp e2
     simp_arith[e3,ez,List.isEmpty_nil,gA,List.getLast?_nil];rw[vy (by decide)];rfl
    |some l=>
     have e3:(((cX (xs.take i)).map PV.int).isEmpty)=false:=by
      cases e4:cX (xs.take i)with
      |nil=>rw[e4]at e2;cases e2
      |cons _ _=>rfl
     have e5:bn ((cX (xs.take i)).map PV.int) (-1)=some (.int l):=qt (by rw[List.getLast?_map,e2];rfl)
     simp_arith[e3,KG e5,rn,gA,e2];rw[vy hll]
     simp_arith[kq]) (fun _ _ _=>bL _) [some (.tup (xs.map PV.int)),some (.ref S.length),none] (S++[.lst []]) ⟨⟨_,rfl⟩,by simp[cX]⟩
 rw[h1];subst h2;subst h3
 simp_arith[Ba,gX,aw,m_]
noncomputable abbrev Mk:=Nat->Nat->Bool
noncomputable def cnt(L:Nat->Bool)(m:Nat):Nat:=((List.range m).filter L).length
theorem j_{L:Nat->Bool}{m:Nat}:cnt L (m+1)=cnt L m+(if L m then 1 else 0):=by
 unfold cnt;rw[Dt,List.filter_append,en];cases h:L m<;>simp[h]
theorem B1{L:Nat->Bool}:∀m,cnt L m<=m
 |0=>by simp[cnt]
 |m+1=>by rw[j_];have:=B1 (L:=L) m;split<;>omega
theorem MI{L:Nat->Bool}:∀{m:Nat},(∀b<m,L b=false)->cnt L m=0
 |0,_=>rfl
 |m+1,h=>by rw[j_,MI fun b hb=>h b (by omega),h m (by omega)];rfl
theorem B3{L K:Nat->Bool}:∀{m:Nat},(∀b<m,L b=true->K b=true)->cnt L m<=cnt K m
 |0,_=>aF _
 |m+1,h=>by
  rw[j_,j_];have:=B3 (L:=L) (K:=K) (m:=m) fun b hb=>h b (by omega);cases e:L m with
  |false=>simp;omega
  |true=>rw[h m (by omega) e];simp;omega
theorem wg{L K:Nat->Bool}:∀{m:Nat}{j:Nat},(∀b<m,L b=true->K b=true)->j<m->K j=true->L j=false->cnt L m<cnt K m
 |m+1,j,h,hj,hk,hl=>by
  rw[j_,j_];have le:=B3 (L:=L) (K:=K) (m:=m) fun b hb=>h b (by omega);by_cases e:j=m
  ·subst e;rw[hk,hl];simp;omega
  ·have lt:=wg (L:=L) (K:=K) (m:=m) (j:=j) (fun b hb=>h b (by omega)) (by omega) hk hl;cases e2:L m with
   |false=>simp;omega
   |true=>rw[h m (by omega) e2];simp;omega
theorem B4{L:Nat->Bool}{m j:Nat}(hj:j<m)(h:L j=true):1<=cnt L m:=by
 have:=wg (L:=fun _=>false) (K:=L) (m:=m) (j:=j) (fun _ _ z=>(nomatch z)) hj h rfl;omega
theorem MJ{L:Nat->Bool}{m j b:Nat}(hj:j<m)(hb:b<m)(h:L j=true)(g:L b=true)(ne:b≠j):2<=cnt L m:=by
 have:=wg (L:=fun a=>decide (a=j)) (K:=L) (m:=m) (j:=b) (fun a _ z=>by rw[si z];exact h) hb g (eN ne);have:=B4 (L:=fun a=>decide (a=j)) (m:=m) (j:=j) hj (gP rfl);omega
noncomputable def bS(h w:Nat)(M:Mk):Mk:=fun i j=>M i j&&!(cnt (M i) w==1)&&!(cnt (fun a=>M a j) h==1)
noncomputable def Sub(h w:Nat)(M K:Mk):Prop:=∀i j,i<h->j<w->M i j=true->K i j=true
noncomputable def Ag(h w:Nat)(M K:Mk):Prop:=∀i j,i<h->j<w->M i j=K i j
noncomputable def B5(h w:Nat)(M:Mk):Prop:=∀i j,i<h->j<w->M i j=true->(∃b,b<w/\M i b=true/\b≠j)/\∃a,a<h/\M a j=true/\a≠i
section
variable{h w:Nat}{M K T F:Mk}
noncomputable def MK(w:Nat)(M:Mk):Nat->Nat
 |0=>0
 |h+1=>MK w M h+cnt (M h) w
structure OE(h w:Nat)(M F:Mk):Prop where
 sub:Sub h w F M
 stab:B5 h w F
 all:∀T,Sub h w T M->B5 h w T->Sub h w T F
end
theorem wj{wf n:Nat}{rs:List (List Int)}{p:PV}{k:Nat}{S:aa}(hp:aE S p=some (TR rs)/\e9 S p=none)(hk:∀r∈rs,k<r.length)(hl:rs.length<=1000):af D wf (n+1) 18 [p,.int k] S=.ok (.int (dZ rs k)) S:=by
 have hL:aj=16777216:=rfl;have hit:a8 S .seq [p]=some ⟨TR rs,none⟩:=by simp only[a8,h8,h_,hp.1,hp.2]
 refine(aO (d:=xQ.d) (p:=.int (dZ rs k)) (S1:=S) rfl rfl ?_).trans (ba (fG _ _));show ar (af D wf n) wf sQ [some p,some (.int k)] S=_
 simp_arith[sQ,hit,bt,Option.getD_some];rw[show TR rs=rs.map (fun r=>.tup (r.map PV.int)) from rfl,dF _ (fun r=>.int (r.getD k 0+1000)) (fun ro=>∃a,ro=[a,some (.int k)]) _ (fun r hr ro ⟨a,hro⟩=>by
  subst hro;exact⟨_,rfl,by simp_arith[bA (getD_at (hk r hr))],_,rfl⟩) _ ⟨_,rfl⟩]
 simp_arith[aw,ag (show rs.length<=aj by omega)];rw[show(rs.map fun r=>PV.int (r.getD k 0+1000))=(rs.map fun r=>r.getD k 0+1000).map PV.int by rw[cK];rfl,vD]
 simp_arith[aL];rfl
theorem B6{wf n q:Nat}{rs:List (List Int)}{S:aa}(hn:rs≠[])(hs:fZ q rs)(hq:q<=1000)(hl:rs.length<=1000):af D wf (n+2) 19 [.tup (TR rs)] S=.ok (.tup ((bu q rs).map PV.int)) S:=by
 have hL:aj=16777216:=rfl;refine(aO (d:=xR.d) (p:=.tup ((bu q rs).map PV.int)) (S1:=S) rfl rfl ?_).trans (ba (gC _ _));show ar (af D wf (n+1)) wf sR [some (.tup (TR rs)),none] S=_;have hp:0<rs.length:=List.length_pos_iff.mpr hn;have he:(TR rs).isEmpty=false:=by
  cases rs with
  |nil=>exact absurd rfl hn
  |cons _ _=>rfl
 have h0:=Lg hp;have h1:=(hs _ (getD_mem hp)).1
 simp_arith[sR,vB,he,bA (show bn (TR rs) 0=_ from h0),aw,h1,eJ (show -(2 ^ 62)<=(q:Int)/\(q:Int)<2 ^ 62 by omega),Int.toNat_natCast,bt,Option.getD_some];rw[lx,dF _ (fun k=>.int (dZ rs k%2001-1000)) (fun ro=>∃a,ro=[a,some (.tup (TR rs))]) _ (fun k hk ro ⟨a,hro⟩=>by
  subst hro;have hk':k<q:=gh.mp hk;refine⟨[some (.int k),some (.tup (TR rs))],by simp[bx],?_,_,rfl⟩
  simp_arith[wj (p:=.tup (TR rs)) (rs:=rs) ⟨rfl,rfl⟩ (fun r hr=>by rw[(hs r hr).1];exact hk') hl,gD (show(0:Int)<2001 by decide)]) _ ⟨_,rfl⟩]
 simp_arith[aw,du,ag (show q<=aj by omega)];unfold bu;rw[cK];rfl
theorem B7{wf n q:Nat}{rs:List (List Int)}{t:List Int}{p:PV}{S:aa}(hp:aE S p=some (TR rs)/\e9 S p=none)(hs:fZ q rs)(ht:t.length=q)(hq:q<=1000)(hl:rs.length<=1000):af D wf (n+2) 20 [p,.tup (t.map PV.int)] S=.ok (.tup ((jb q rs t).map PV.int)) S:=by
 have hL:aj=16777216:=rfl;refine(aO (d:=xS.d) (p:=.tup ((jb q rs t).map PV.int)) (S1:=S) rfl rfl ?_).trans (ba (gC _ _));show ar (af D wf (n+1)) wf sS [some p,some (.tup (t.map PV.int)),none] S=_
 simp_arith[sS,aw,ht,eJ (show -(2 ^ 62)<=(q:Int)/\(q:Int)<2 ^ 62 by omega),Int.toNat_natCast,bt,Option.getD_some];rw[lx,dF _ (fun k=>.int (t.getD k 0+1000-dZ rs k)) (fun ro=>∃a,ro=[a,some p,some (.tup (t.map PV.int))]) _ (fun k hk ro ⟨a,hro⟩=>by
  subst hro;have hk':k<q:=gh.mp hk;refine⟨[some (.int k),some p,some (.tup (t.map PV.int))],by simp[bx],?_,_,rfl⟩
  simp_arith[aL];rw[Lh,wj (p:=.tup (TR [t])) (rs:=[t]) ⟨rfl,rfl⟩ (fun r hr=>by simp at hr;subst hr;omega) (by show 1<=1000;decide)]
  simp_arith[aL];rw[wj (p:=p) (rs:=rs) hp (fun r hr=>by rw[(hs r hr).1];exact hk') hl]
  simp_arith[Bw]) _ ⟨_,rfl⟩]
 simp_arith[aw,du,ag (show q<=aj by omega)];rw[dF _ (fun k=>.int ((t.getD k 0+1000-dZ rs k)%2001-1000)) (fun ro=>∃a,ro=[a]) _ (fun k hk ro ⟨a,hro⟩=>by
  subst hro;exact⟨_,rfl,by simp_arith[gD (show(0:Int)<2001 by decide)],_,rfl⟩) _ ⟨_,rfl⟩]
 simp_arith[aw,du,ag (show q<=aj by omega)];unfold jb;rw[cK];rfl
noncomputable def dh(G:Nat->Nat->List Int)(M:Mk)(i j:Nat):PV:=if M i j then .non else .tup ((G i j).map PV.int)
noncomputable def cG(G:Nat->Nat->List Int)(M:Mk)(w i:Nat):List PV:=(List.range w).map (dh G M i)
noncomputable def FP(h w:Nat)(G:Nat->Nat->List Int)(M:Mk):PV:=.tup ((List.range h).map fun i=>.tup (cG G M w i))
noncomputable def SP(h w q:Nat)(G:Nat->Nat->List Int):PV:=.tup ((List.range h).map fun i=>.tup ((bu q ((List.range w).map (G i))).map PV.int))
structure jX(h w q:Nat)(G:Nat->Nat->List Int):Prop where
 h1:h<=10
 w1:w<=10
 q1:q<=10
 ok:∀i j,i<h->j<w->(G i j).length=q/\gE (G i j)
theorem mR{f:Nat->PV}{m k:Nat}(h:k<m):bn ((List.range m).map f) (k:Int)=some (f k):=j5 (by rw[bG,lQ h];rfl)
theorem ML{m j:Nat}(h:j<m):List.range m=(List.range m).take j++j::(List.range m).drop (j+1):=by
 have e:(List.range m)[j]?=some j:=lQ h
 conv=>lhs;rw[←ke j (List.range m)]
 rw[sd (by simpa using h)];simp
theorem B8{L:Nat->Bool}:∀m,cnt (fun j=>!L j) m+cnt L m=m
 |0=>rfl
 |m+1=>by
  have:=B8 (L:=L) m;rw[j_,j_];cases L m<;>simp<;>omega
theorem MM{L:Nat->Bool}{m j:Nat}(hj:j<m)(hL:L j=true)(h1:cnt L m=1):(List.range m).filter (fun b=>!L b)=(List.range m).take j++(List.range m).drop (j+1):=by
 have al:∀b,b<m->L b=true->b=j:=fun b hb hl=>On fun ne=>by
  have:=MJ hj hb hL hl ne;omega
 conv=>lhs;rw[ML hj]
 rw[List.filter_append,rS,hL];simp only[gZ,eC,dj];have key:∀l:List Nat,(∀b∈l,b<m/\b≠j)->l.filter (fun b=>!L b)=l:=fun l hl=>List.filter_eq_self.mpr fun b hb=>by
  obtain⟨b1,b2⟩:=hl b hb;cases e:L b with
  |false=>rfl
  |true=>exact absurd (al b b1 e) b2
 rw[key _ fun b hb=>?_,key _ fun b hb=>?_]
 ·obtain⟨i,hi,e⟩:=pW hb;rw[mY,du]at hi;rw[List.getElem_drop,List.getElem_range]at e;omega
 ·obtain⟨i,hi,e⟩:=pW hb;rw[kg,du]at hi;rw[List.getElem_take,List.getElem_range]at e;omega
theorem MN{q m:Nat}{R:Nat->List Int}(h:∀j,j<m->(R j).length=q/\gE (R j)):fZ q ((List.range m).map R):=fun r hr=>by
 obtain⟨j,hj,rfl⟩:=bc.mp hr;exact h j (gh.mp hj)
theorem B9{wf n q m j:Nat}{L:Nat->Bool}{R:Nat->List Int}{P:PV}{S:aa}(hit:a8 S .seq [P]=some ⟨(List.range m).map (fun b=>if L b then .non else .tup ((R b).map PV.int)),none⟩)(hlen:aC S .len [P]=.ok (.int m) S)(hm:m<=10)(hq:q<=10)(hR:∀j,j<m->(R j).length=q/\gE (R j))(hj:j<m)(hL:L j=true) :
  af D wf (n+3) 21 [P,.tup ((bu q ((List.range m).map R)).map PV.int)] S=.ok (if cnt L m=1 then .tup ((R j).map PV.int) else .non) S:=by
 have hLim:aj=16777216:=rfl;have hb:below S.length (if cnt L m=1 then PV.tup ((R j).map PV.int) else .non)=true:=by split<;>first|exact gC _ _|exact jZ _
 refine(aO (d:=xU.d) (p:=if cnt L m=1 then .tup ((R j).map PV.int) else .non) (S1:=S) rfl rfl ?_).trans (ba hb)
 show ar (af D wf (n+2)) wf sT [some P,some (.tup ((bu q ((List.range m).map R)).map PV.int)),none] S=_
 simp_arith[sT,hit,bt];rw[vG (fun b=>if L b then .non else .tup ((R b).map PV.int)) (fun b=>if L b then .non else .tup ((R b).map PV.int)) (fun b=>!L b) (fun ro=>∃a,ro=[a]) _ (fun b _ ro ⟨a,hro⟩=>by
  subst hro;refine⟨_,.bl (!L b),rfl,?_,rfl,rfl,_,rfl⟩;cases L b<;>simp_arith[aL,eC,dj]<;>rfl) _ ⟨_,rfl⟩]
 have e1:(((List.range m).filter fun b=>!L b).map fun b=>if L b then PV.non else .tup ((R b).map PV.int))=TR (((List.range m).filter fun b=>!L b).map R):=by
  unfold TR;rw[cK];refine xC fun b hb=>?_;have:=(wI.mp hb).2;cases e:L b with
  |false=>rfl
  |true=>rw[e]at this;cases this
 have e2:((List.range m).filter fun b=>!L b).length=m-cnt L m:=by
  have:=B8 (L:=L) m;show cnt (fun b=>!L b) m=_;omega
 have c1:=B4 hj hL;have c2:=B1 (L:=L) m;rw[e1]
 simp_arith[K7,aw,e2,ag (show m-cnt L m<=aj by omega),hlen];by_cases h1:cnt L m=1
 ·have hd:(((m-cnt L m:Nat):Int)==(m:Int)-1)=true:=by rw[jk];omega
  have hs:=MN hR;rw[MM hj hL h1,kq,List.map_take,List.map_drop];have hs':fZ q (((List.range m).map R).take j++((List.range m).map R).drop (j+1)):=fun r hr=>by
   rcases gO.mp hr with hr|hr
   ·exact hs r (List.mem_of_mem_take hr)
   ·exact hs r (List.mem_of_mem_drop hr)
  have hl':(((List.range m).map R).take j++((List.range m).map R).drop (j+1)).length<=1000:=by
   rw[en,kg,mY,aw,du];omega
  have hreb:=Lo (q:=q) (rs:=(List.range m).map R) (i:=j) hs (by simpa using hj);have hg:((List.range m).map R).getD j []=R j:=by rw[cJ,bG,lQ hj];rfl
  rw[hg]at hreb
  simp_arith[hd,B7 (p:=.lst (TR (((List.range m).map R).take j++((List.range m).map R).drop (j+1)))) ⟨rfl,rfl⟩ hs' Bx (show q<=1000 by omega) hl',hreb,ag h1]
 ·have hd:(((m-cnt L m:Nat):Int)==(m:Int)-1)=false:=by rw[ef];omega
  simp_arith[hd,av h1]
section
variable{wf n h w q:Nat}{G:Nat->Nat->List Int}{M:Mk}{S:aa}
theorem B_{k:Nat}:below k (FP h w G M)=true:=by
 unfold FP;simp only[below,rc,rX,gW];intro i _;show below k (.tup (cG G M w i))=true;simp only[below,rc,cG,rX,gW];intro j _;show below k (dh G M i j)=true;unfold dh;split
 ·exact jZ _
 ·exact gC _ _
theorem Ca{k i j:Nat}:below k (dh G M i j)=true:=by
 unfold dh;split
 ·exact jZ _
 ·exact gC _ _
theorem Cb{i j:Nat}(e:M i j=true):dh G M i j=.non:=by unfold dh;rw[e];rfl
theorem rD{i j:Nat}(e:M i j=false):dh G M i j=.tup ((G i j).map PV.int):=by unfold dh;rw[e];rfl
theorem MP(g:jX h w q G){i j:Nat}(hi:i<h)(hj:j<w):af D wf (n+4) 22 [FP h w G M,.tup [.int i,.int j],SP h w q G,SP w h q (fun a b=>G b a)] S=.ok (dh G (bS h w M) i j) S:=by
 have hL:aj=16777216:=rfl;have hh:=g.h1;have hw:=g.w1;refine(aO (d:=xV.d) (p:=dh G (bS h w M) i j) (S1:=S) rfl rfl ?_).trans (ba Ca);show ar (af D wf (n+3)) wf sU [some (FP h w G M),some (.tup [.int i,.int j]),some (SP h w q G),some (SP w h q (fun a b=>G b a)),none,none] S=_;have a0:∀T,aU T (.tup [.int i,.int j]) (.int 0)=.ok (.int i) T:=fun T=>bA rfl;have a1:∀T,aU T (.tup [.int i,.int j]) (.int 1)=.ok (.int j) T:=fun T=>bA rfl;have f0:∀T,aU T (FP h w G M) (.int i)=.ok (.tup (cG G M w i)) T:=fun T=>bA (mR hi);have f1:∀T,aU T (.tup (cG G M w i)) (.int j)=.ok (dh G M i j) T:=fun T=>bA (mR hj);have s0:∀T,aU T (SP h w q G) (.int i)=.ok (.tup ((bu q ((List.range w).map (G i))).map PV.int)) T:=fun T=>bA (mR hi);have s1:∀T,aU T (SP w h q (fun a b=>G b a)) (.int j)=.ok (.tup ((bu q ((List.range h).map fun a=>G a j)).map PV.int)) T:=fun T=>bA (mR hj)
 simp_arith[sU,a0,a1,f0,f1];cases e:M i j with
 |false=>
  have e2:bS h w M i j=false:=by unfold bS;rw[e];rfl
  rw[rD e,rD e2]
  simp_arith[aL]
 |true=>
  rw[Cb e];have bk:=B9 (wf:=wf) (n:=n) (q:=q) (m:=w) (j:=j) (L:=M i) (R:=G i) (P:=.tup (cG G M w i)) (S:=S) rfl (by rw[qT,cG,aw,du]) hw g.q1 (fun b hb=>g.ok i b hi hb) hj e
  simp_arith[s0,bk];by_cases c1:cnt (M i) w=1
  ·have e2:bS h w M i j=false:=by unfold bS;rw[e,c1];rfl
   rw[ag c1,rD e2]
   simp_arith[aL]
  ·rw[av c1]
   simp_arith[a1,s1,bt,Option.getD_some];rw[show a8 S .seq [FP h w G M]=some ⟨(List.range h).map (fun a=>.tup (cG G M w a)),none⟩ from rfl];dsimp only;rw[dF _ (fun a=>dh G M a j) (fun ro=>∃x,ro=[x,some (.tup [.int i,.int j])]) _ (fun a _ ro ⟨x,hro⟩=>by
    subst hro;exact⟨_,rfl,by simp_arith[a1,bA (mR (f:=dh G M a) hj),cG],_,rfl⟩) _ ⟨_,rfl⟩]
   have bk2:=B9 (wf:=wf) (n:=n) (q:=q) (m:=h) (j:=i) (L:=fun a=>M a j) (R:=fun a=>G a j) (P:=.lst ((List.range h).map fun a=>dh G M a j)) (S:=S) rfl (by rw[vw,aw,du]) hh g.q1 (fun b hb=>g.ok b j hb hj) hi e
   simp_arith[aw,du,ag (show h<=aj by omega),bk2];by_cases c2:cnt (fun a=>M a j) h=1
   ·have e2:bS h w M i j=false:=by unfold bS;rw[c2];simp
    rw[ag c2,rD e2]
   ·have e2:bS h w M i j=true:=by
     unfold bS;rw[e,ef.mpr c1,ef.mpr c2];rfl
    rw[av c2,Cb e2]
theorem MQ(g:jX h w q G){i:Nat}(hi:i<h):af D wf (n+5) 23 [FP h w G M,.int i,SP h w q G,SP w h q (fun a b=>G b a)] S=.ok (.tup (cG G (bS h w M) w i)) S:=by
 have hL:aj=16777216:=rfl;have hw:=g.w1;refine(aO (d:=xW.d) (p:=.tup (cG G (bS h w M) w i)) (S1:=S) rfl rfl ?_).trans (ba (by
  simp only[below,rc,cG,rX,gW];intro j _;exact Ca))
 show ar (af D wf (n+4)) wf sV [some (FP h w G M),some (.int i),some (SP h w q G),some (SP w h q (fun a b=>G b a))] S=_;have f0:∀T,aU T (FP h w G M) (.int i)=.ok (.tup (cG G M w i)) T:=fun T=>bA (mR hi);have l0:∀T,aC T .len [.tup (cG G M w i)]=.ok (.int w) T:=fun T=>by rw[qT,cG,aw,du]
 simp_arith[sV,f0,l0,eJ (show -(2 ^ 62)<=(w:Int)/\(w:Int)<2 ^ 62 by omega),Int.toNat_natCast,bt,Option.getD_some];rw[lx,dF _ (dh G (bS h w M) i) (fun ro=>∃x,ro=[x,some (SP h w q G),some (SP w h q (fun a b=>G b a)),some (FP h w G M),some (.int i)]) _ (fun j hj ro ⟨x,hro⟩=>by
  subst hro;have hj':=gh.mp hj;refine⟨_,rfl,?_,_,rfl⟩;rw[qc]
  simp_arith[MP g hi hj']) _ ⟨_,rfl⟩]
 simp_arith[aw,du,ag (show w<=aj by omega)];rfl
theorem MR(g:jX h w q G):af D wf (n+6) 24 [FP h w G M,SP h w q G,SP w h q (fun a b=>G b a)] S=.ok (FP h w G (bS h w M)) S:=by
 have hL:aj=16777216:=rfl;have hh:=g.h1;refine(aO (d:=xX.d) (p:=FP h w G (bS h w M)) (S1:=S) rfl rfl ?_).trans (ba B_);show ar (af D wf (n+5)) wf sW [some (FP h w G M),some (SP h w q G),some (SP w h q (fun a b=>G b a))] S=_;have l0:∀T,aC T .len [FP h w G M]=.ok (.int h) T:=fun T=>by unfold FP;rw[qT,aw,du]
 simp_arith[sW,l0,eJ (show -(2 ^ 62)<=(h:Int)/\(h:Int)<2 ^ 62 by omega),Int.toNat_natCast,bt,Option.getD_some];rw[lx,dF _ (fun i=>.tup (cG G (bS h w M) w i)) (fun ro=>∃x,ro=[x,some (SP h w q G),some (SP w h q (fun a b=>G b a)),some (FP h w G M)]) _ (fun i hi ro ⟨x,hro⟩=>by
  subst hro;have hi':=gh.mp hi;refine⟨_,rfl,?_,_,rfl⟩;rw[qc]
  simp_arith[MQ g hi']) _ ⟨_,rfl⟩]
 simp_arith[aw,du,ag (show h<=aj by omega)];rfl
theorem pJ{d:Nat}:∀{l:List PV},(∀x∈l,aM x d=true)->a_ l d=true
 |[],_=>rfl
 |x::l,h=>by simp only[a_,h x (bK ..),pJ fun y hy=>h y (bq _ hy),gY]
theorem wk{d:Nat}:aM (FP h w G M) (d+3)=true:=by
 show a_ ((List.range h).map fun i=>.tup (cG G M w i)) (d+2)=true;refine pJ fun x hx=>?_;obtain⟨i,_,rfl⟩:=bc.mp hx;show a_ (cG G M w i) (d+1)=true;refine pJ fun y hy=>?_;obtain⟨j,_,rfl⟩:=bc.mp hy;unfold dh;split
 ·rfl
 ·exact iq d _
theorem wm{α:Type}{f g:α->PV}:∀l:List α,fU (l.map f) (l.map g)=l.all fun x=>b_ (f x) (g x)
 |[]=>rfl
 |x::l=>by simp only[aZ,List.all_cons,←wm l];rfl
theorem MS{K:Mk}{i j:Nat}:b_ (dh G M i j) (dh G K i j)=(M i j==K i j):=by
 unfold dh;cases M i j<;>cases K i j<;>first|rfl|exact(qU _ _).trans (fx _)
noncomputable def ka(h w:Nat)(M K:Mk):Bool:=(List.range h).all fun i=>(List.range w).all fun j=>M i j==K i j
theorem OF{K:Mk}:ka h w M K=true↔Ag h w M K:=by
 unfold ka Ag;simp only[gW,gh,jk];exact⟨fun z i j hi hj=>z i hi j hj,fun z i hi j hj=>z i j hi hj⟩
theorem MT{K:Mk}:aK S .ne (FP h w G M) (FP h w G K)=.ok (.bl (!ka h w M K)) S:=by
 show(if aM (FP h w G M) 60&&aM (FP h w G K) 60 then ac.ok (PV.bl (!b_ (FP h w G M) (FP h w G K))) S else _)=_
 rw[wk,wk,gY,ag rfl];congr 3;show fU ((List.range h).map fun i=>.tup (cG G M w i)) ((List.range h).map fun i=>.tup (cG G K w i))=_;rw[wm];unfold ka;congr 1;funext i;show fU (cG G M w i) (cG G K w i)=_;unfold cG;rw[wm];congr 1;funext j;exact MS
end
noncomputable abbrev Pt:=Int×Int
noncomputable def up(a b q:Pt):Prop:=(b.2-a.2)*(q.1-a.1)<=(q.2-a.2)*(b.1-a.1)
noncomputable def fM(a b c:Pt):Prop:=(b.2-a.2)*(c.1-b.1)<(c.2-b.2)*(b.1-a.1)
theorem wn{u v w U V W:Int}(hu:0<u)(hv:0<=v)(h1:U*w<=W*u)(h2:V*u*w<=U*v*w):V*w<=W*v:=by
 refine Int.le_of_mul_le_mul_right ?_ hu;have h3:U*w*v<=W*u*v:=xD h1 hv;have e1:V*w*u=V*u*w:=by rw[DL]
 have e2:U*w*v=U*v*w:=by rw[DL]
 have e3:W*v*u=W*u*v:=by rw[DL]
 omega
theorem wo{x y z X Y Z:Int}:(Y-X)*(z-x)<=(Z-X)*(y-x)↔(Y-X)*(z-y)<=(Z-Y)*(y-x):=by
 have e1:(Y-X)*(z-x)=(Y-X)*(z-y)+(Y-X)*(y-x):=by rw[←Int.mul_add];congr 1;omega
 have e2:(Z-X)*(y-x)=(Z-Y)*(y-x)+(Y-X)*(y-x):=by rw[←Int.add_mul];congr 1;omega
 omega
theorem MU{a b p:Pt}(h:fM a b p):up a b p:=wo.mpr (iI h)
theorem MV{b c p q:Pt}(h1:b.1<c.1)(h2:c.1<p.1)(hq:b.1<=q.1)(u:up b c q)(n:¬fM b c p):up b p q:=by
 have n2:(p.2-c.2)*(c.1-b.1)<=(c.2-b.2)*(p.1-c.1):=Int.not_lt.mp n;have e1:(p.2-b.2)*(c.1-b.1)=(p.2-c.2)*(c.1-b.1)+(c.2-b.2)*(c.1-b.1):=by rw[←Int.add_mul];congr 1;omega
 have e2:(c.2-b.2)*(p.1-b.1)=(c.2-b.2)*(p.1-c.1)+(c.2-b.2)*(c.1-b.1):=by rw[←Int.mul_add];congr 1;omega
 exact wn (show 0<c.1-b.1 by omega) (show 0<=p.1-b.1 by omega) u (xD (by omega) (by omega))
theorem MW{a b p q:Pt}(h1:a.1<b.1)(h2:b.1<p.1)(hq:q.1<=b.1)(u:up a b q)(n:fM a b p):up b p q:=by
 have u2:(b.2-a.2)*(q.1-b.1)<=(q.2-b.2)*(b.1-a.1):=wo.mp u;exact wn (show 0<b.1-a.1 by omega) (show 0<=p.1-b.1 by omega) u2 (Int.mul_le_mul_of_nonpos_right (iI n) (by omega))
theorem MX{z a b p:Pt}(h1:z.1<a.1)(h2:a.1<b.1)(hp:a.1<=p.1)(u:up a b p)(n:fM z a b):up z a p:=by
 refine wo.mpr ?_;refine wn (show 0<b.1-a.1 by omega) (show 0<=a.1-z.1 by omega) u ?_;exact xD (iI n) (by omega)
noncomputable def pK:List Pt->Prop
 |[]=>True
 |[_]=>True
 |b::a::r=>a.1<b.1/\(∀z∈r.head?,fM z a b)/\pK (a::r)
noncomputable def mS(P:Pt->Prop):List Pt->Prop
 |[]=>True
 |[_]=>True
 |b::a::r=>(∀q,P q->up a b q)/\mS P (a::r)
theorem Cc{P:Pt->Prop}{p:Pt}:∀{r:List Pt}{b:Pt},pK (b::r)->mS P (b::r)->b.1<=p.1->(∀a∈r.head?,up a b p)->mS (fun q=>P q\/q=p) (b::r)
 |[],b,_,_,_,_=>True.intro
 |a::r,b,c,s,hp,h=>by
  have c1:=c.1;have ua:=h a rfl;refine⟨fun q hq=>?_,Cc c.2.2 s.2 (by omega) fun z hz=>?_⟩
  ·rcases hq with hq|rfl
   ·exact s.1 q hq
   ·exact ua
  ·have hb:=c.2.1 z hz;cases r with
   |nil=>cases hz
   |cons z' r=>
    cases hz;exact MX c.2.2.1 c1 (by omega) ua hb
theorem MY{b p:Pt}:up b p p:=Int.le_of_eq (sk _ _ ▸ rfl)
theorem MZ{b p:Pt}:up b p b:=by unfold up;rw[Int.sub_self,Int.sub_self,Int.mul_zero,Int.zero_mul];exact iE _
structure fu(P:Pt->Prop)(b:Pt)(r:List Pt):Prop where
 ch:pK (b::r)
 su:mS P (b::r)
 top:∀q,P q->q.1<b.1\/q=b
 bot:∀z∈(b::r).getLast?,∀q,P q->z.1<=q.1
 mem:∀c∈b::r,P c
structure kc(P:Pt->Prop)(p b:Pt)(r:List Pt):Prop where
 ch:pK (b::r)
 su:mS P (b::r)
 far:∀q,P q->b.1<=q.1->up b p q
 lt:b.1<p.1
 bot:∀z∈(b::r).getLast?,∀q,P q->z.1<=q.1
 mem:∀c∈b::r,P c
theorem fu.start{p:Pt}:fu (·=p) p []:=⟨True.intro,True.intro,fun _ h=>.inr h,fun z hz q h=>by cases hz;rw[h];exact iE _,fun c h=>sr.mp h⟩
theorem fu.go{P:Pt->Prop}{p b:Pt}{r:List Pt}(h:fu P b r)(lt:b.1<p.1):kc P p b r:=⟨h.ch,h.su,fun q hq hl=>by
 rcases h.top q hq with z|rfl
 ·omega
 ·exact MZ,lt,h.bot,h.mem⟩
theorem kc.pop{P:Pt->Prop}{p b c:Pt}{r:List Pt}(h:kc P p c (b::r))(n:¬fM b c p):kc P p b r where
 ch:=h.ch.2.2
 su:=h.su.2
 far q hq hl:=MV h.ch.1 h.lt hl (h.su.1 q hq) n
 lt:=Int.lt_trans h.ch.1 h.lt
 bot:=h.bot
 mem x hx:=h.mem x (bq _ hx)
theorem kc.push{P:Pt->Prop}{p b:Pt}{r:List Pt}(h:kc P p b r)(n:∀a∈r.head?,fM a b p)(far:∀q,P q->q.1<p.1):fu (fun q=>P q\/q=p) p (b::r) where
 ch:=⟨h.lt,n,h.ch⟩
 su:=by
  refine⟨fun q hq=>?_,Cc h.ch h.su (iI h.lt) fun a ha=>MU (n a ha)⟩;rcases hq with hq|rfl
  ·by_cases hl:b.1<=q.1
   ·exact h.far q hq hl
   ·cases r with
    |nil=>exact absurd (h.bot b rfl q hq) hl
    |cons a r=>exact MW h.ch.1 h.lt (by omega) (h.su.1 q hq) (n a rfl)
  ·exact MY
 top q hq:=by
  rcases hq with hq|rfl
  ·exact .inl (far q hq)
  ·exact .inr rfl
 bot z hz q hq:=by
  have hz:z∈(b::r).getLast?:=hz;rcases hq with hq|rfl
  ·exact h.bot z hz q hq
  ·have:=far z (h.mem z (List.mem_of_getLast? hz));omega
 mem c hc:=by
  rcases aP.mp hc with rfl|hc
  ·exact .inr rfl
  ·exact .inl (h.mem c hc)
theorem fu.imp{P K:Pt->Prop}{b:Pt}{r:List Pt}(e:∀q,P q↔K q)(h:fu P b r):fu K b r:=by
 have:P=K:=funext fun q=>propext (e q);exact this ▸ h
theorem Cd{P:Pt->Prop}:∀{l:List Pt}{j:Nat}{a b:Pt},pK l->mS P l->l[j]?=some b->l[j+1]?=some a->a.1<b.1/\∀q,P q->up a b q
 |[],_,_,_,_,_,h,_=>by cases h
 |[_],j,a,b,_,_,_,h=>by cases j<;>cases h
 |b::a::r,0,_,_,c,s,h1,h2=>by cases h1;cases h2;exact⟨c.1,s.1⟩
 |b::a::r,j+1,_,_,c,s,h1,h2=>Cd c.2.2 s.2 h1 h2
structure fN(R:List Pt)(a b:Pt):Prop where
 ha:a∈R
 hb:b∈R
 lt:a.1<b.1
 lo:a.1*R.length<(R.map (·.1)).sum
 hi:(R.map (·.1)).sum<=b.1*R.length
 up:∀q∈R,up a b q
structure M3(a b:Pt)(s1 s2 h1 h2:Int):Prop where
 s:0<s2
 h:0<h2
 ex:∃g1 g2:Int,0<g1/\0<g2/\b.2-a.2=s1*g1/\b.1-a.1=s2*g1/\a.2*(b.1-a.1)-(b.2-a.2)*a.1=h1*g2/\b.1-a.1=h2*g2
noncomputable def wp(s1 s2 h1 h2:Int)(q:Pt):Int:=(q.2*s2-q.1*s1)*h2-h1*s2
theorem M4{a b:Pt}{x y v:Int}(hl:a.1<b.1)(u:up a b (x,v))(h:v<=y):up a b (x,y):=
 Int.le_trans u (xD (show v-a.2<=y-a.2 by omega) (by omega))
theorem Ce{z:Int}:∀{R:List Pt},(∀q∈R,z<=q.1)->z*R.length<=(R.map (·.1)).sum
 |[],_=>by simp
 |q::R,h=>by
  have h1:=h q bK;have h2:=Ce (R:=R) fun x hx=>h x (bq _ hx);simp only[aZ,List.sum_cons,List.length_cons];have:z*((R.length+1:Nat):Int)=z*R.length+z:=by grind
  omega
theorem Cf{z:Int}:∀{R:List Pt},(∀q∈R,q.1<=z)->(R.map (·.1)).sum<=z*R.length
 |[],_=>by simp
 |q::R,h=>by
  have h1:=h q bK;have h2:=Cf (R:=R) fun x hx=>h x (bq _ hx);simp only[aZ,List.sum_cons,List.length_cons];have:z*((R.length+1:Nat):Int)=z*R.length+z:=by grind
  omega
noncomputable def eM(D:List Pt)(x:Int):Option Int:=(D.find? fun p=>decide (p.1=x)).map (·.2)
noncomputable def jg(D:List Pt)(x v:Int):List Pt:=if (D.any fun p=>decide (p.1=x))=true then D.map (fun p=>if p.1=x then (p.1,v) else p) else D++[(x,v)]
theorem o6{D:List Pt}{x v:Int}(h:eM D x=some v):(x,v)∈D:=by
 unfold eM at h;cases e:D.find? fun p=>decide (p.1=x)with
 |none=>rw[e]at h;cases h
 |some p=>
  rw[e]at h;cases h;have h1:=List.find?_some e;have h2:=DH e;simp only[gT]at h1;subst h1;exact h2
theorem Cg{D:List Pt}{x:Int}(h:eM D x=none):(D.any fun p=>decide (p.1=x))=false:=by
 unfold eM at h;rw[DC,DF]at h;rw[rQ];exact h
theorem M5{D:List Pt}{x v:Int}(h:eM D x=some v):(D.any fun p=>decide (p.1=x))=true:=
 qb.mpr ⟨(x,v),o6 h,by simp⟩
theorem rE:∀{D:List Pt}{x u v:Int},(D.map (·.1)).Nodup->(x,u)∈D->(x,v)∈D->u=v
 |p::D,x,u,v,nd,h1,h2=>by
  obtain⟨n1,n2⟩:=pU.mp nd;rcases aP.mp h1 with e1|h1<;>rcases aP.mp h2 with e2|h2
  ·exact(Prod.mk.inj (e1.trans e2.symm)).2
  ·exact absurd (bc.mpr ⟨_,h2,by rw[←e1]⟩) n1
  ·exact absurd (bc.mpr ⟨_,h1,by rw[←e2]⟩) n1
  ·exact rE n2 h1 h2
theorem M6{D:List Pt}{x v:Int}(nd:(D.map (·.1)).Nodup)(h:(x,v)∈D):eM D x=some v:=by
 cases e:eM D x with
 |none=>exact absurd (Cg e) (by rw[qb.mpr ⟨_,h,by simp⟩];simp)
 |some u=>rw[rE nd (o6 e) h]
structure gL(R D:List Pt):Prop where
 nd:(D.map (·.1)).Nodup
 all:∀q∈R,∃v,(q.1,v)∈D/\v<=q.2
 mem:∀p∈D,p∈R
noncomputable def jh(i j:Int):Int:=if j<i then j else i
theorem M7{D:List Pt}{x v:Int}(h:(D.any fun p=>decide (p.1=x))=true):(D.map (fun p=>if p.1=x then (p.1,v) else p)).map (·.1)=D.map (·.1):=by
 rw[cK];refine xC fun p _=>?_;show(if p.1=x then (p.1,v) else p).1=p.1
 split<;>rfl
theorem gL.put{R D:List Pt}(l:gL R D)(q:Pt):gL (R++[q]) (jg D q.1 (jh q.2 ((eM D q.1).getD q.2))):=by
 cases e:eM D q.1 with
 |none=>
  have ea:=Cg e;unfold jg;rw[ea,av (by simp)];have ev:jh q.2 ((none:Option Int).getD q.2)=q.2:=by unfold jh;simp
  rw[ev];refine⟨?_,fun p hp=>?_,fun p hp=>?_⟩
  ·rw[kq];refine wU.mpr ⟨l.nd,by simp,fun a ha b hb=>?_⟩;simp at hb;subst hb;intro z;subst z;obtain⟨p,hp,hx⟩:=bc.mp ha;rw[rQ]at ea;exact ea p hp (by simpa using hx)
  ·rcases gO.mp hp with hp|hp
   ·obtain⟨v,h1,h2⟩:=l.all p hp;exact⟨v,lI _ h1,h2⟩
   ·simp at hp;subst hp;exact⟨p.2,by simp,iE _⟩
  ·rcases gO.mp hp with hp|hp
   ·exact lI _ (l.mem p hp)
   ·simp at hp;subst hp;simp
 |some u=>
  have ea:=M5 e;have hm:=o6 e;unfold jg;rw[ea,ag rfl];have ev:jh q.2 ((some u).getD q.2)=if u<q.2 then u else q.2:=rfl
  refine⟨by rw[M7 ea];exact l.nd,fun p hp=>?_,fun p hp=>?_⟩
  ·have old:∀w,(p.1,w)∈D->∃v,(p.1,v)∈D.map (fun r=>if r.1=q.1 then (r.1,jh q.2 ((some u).getD q.2)) else r)/\(v<=w/\(p.1=q.1->v<=q.2)):=fun w hw=>by
    by_cases hx:p.1=q.1
    ·refine⟨jh q.2 ((some u).getD q.2),bc.mpr ⟨_,hw,by rw[ag hx]⟩,?_,fun _=>?_⟩
     ·rw[hx]at hw;have:=rE l.nd hw hm;rw[ev];split<;>omega
     ·rw[ev];split<;>omega
    ·exact⟨w,bc.mpr ⟨_,hw,by rw[av hx]⟩,iE _,fun z=>absurd z hx⟩
   rcases gO.mp hp with hp|hp
   ·obtain⟨w,h1,h2⟩:=l.all p hp;obtain⟨v,h3,h4,_⟩:=old w h1;exact⟨v,h3,Int.le_trans h4 h2⟩
   ·simp at hp;subst hp;obtain⟨v,h3,_,h5⟩:=old u hm;exact⟨v,h3,h5 rfl⟩
  ·obtain⟨r,hr,rfl⟩:=bc.mp hp;split
   ·rename_i hx;rw[ev];split
    ·refine lI _ (l.mem _ ?_);rw[hx];exact hm
    ·rw[hx];exact iz _ (by simp)
   ·exact lI _ (l.mem r hr)
theorem M8{R D l:List Pt}{b:Pt}{r:List Pt}(lo:gL R D)(hu:fu (·∈D) b r){j:Nat}{p q:Pt}(h1:(b::r)[j]?=some q)(h2:(b::r)[j+1]?=some p)(hi:(R.map (·.1)).sum<=q.1*R.length)(hl:p.1*R.length<(R.map (·.1)).sum):fN R p q:=by
 obtain⟨e1,e2⟩:=Cd hu.ch hu.su h1 h2;refine⟨lo.mem _ (hu.mem _ (jm h2)),lo.mem _ (hu.mem _ (jm h1)),e1,hl,hi,fun z hz=>?_⟩;obtain⟨v,v1,v2⟩:=lo.all z hz;exact M4 e1 (e2 _ v1) v2
theorem M9{R D:List Pt}{b z:Pt}{r:List Pt}(lo:gL R D)(hu:fu (·∈D) b r)(hz:(b::r).getLast?=some z):∀q∈R,z.1<=q.1:=fun q hq=>by
 obtain⟨v,v1,_⟩:=lo.all q hq;exact hu.bot z hz (q.1,v) v1
theorem M_{R D:List Pt}{b:Pt}{r:List Pt}(lo:gL R D)(hu:fu (·∈D) b r):∀q∈R,q.1<=b.1:=fun q hq=>by
 obtain⟨v,v1,_⟩:=lo.all q hq;rcases hu.top _ v1 with h|h
 ·exact iI h
 ·rw[←h];exact iE _
theorem Ch{z:Int}{p:Pt}:∀{R:List Pt},(∀q∈R,z<=q.1)->p∈R->z<p.1->z*R.length<(R.map (·.1)).sum
 |q::R,h,hp,hz=>by
  have h1:=h q bK;have ht:∀x∈R,z<=x.1:=fun x hx=>h x (bq _ hx);have h2:=Ce ht;simp only[aZ,List.sum_cons,List.length_cons];have e:z*((R.length+1:Nat):Int)=z*R.length+z:=by grind
  rcases aP.mp hp with rfl|hp
  ·omega
  ·have:=Ch ht hp hz;omega
theorem Na{A B xa xb xc xd:Int}(h1:0<=A*xa+B)(h2:0<=A*xb+B)(h3:A*xc+B<=0)(h4:A*xd+B<=0)(l1:xa<xd)(l2:xc<xb):A=0/\B=0:=by
 have e0:A=0:=by
  rcases Int.lt_trichotomy A 0 with h|h|h
  ·have:=Int.mul_lt_mul_of_neg_left l2 h;omega
  ·exact h
  ·have:=Int.mul_lt_mul_of_pos_left l1 h;omega
 subst e0;omega
theorem Nb{R K:List Pt}{a b c d:Pt}(E:fN R a b)(F:fN K c d)(hm:∀q,q∈R↔q∈K)(hn:R.length=K.length)(hs:(R.map (·.1)).sum=(K.map (·.1)).sum) :
  (b.2-a.2)*(d.1-c.1)=(d.2-c.2)*(b.1-a.1)/\(a.2*(b.1-a.1)-(b.2-a.2)*a.1)*(d.1-c.1)=(c.2*(d.1-c.1)-(d.2-c.2)*c.1)*(b.1-a.1):=by
 have h1:(d.2-c.2)*(a.1-c.1)<=(a.2-c.2)*(d.1-c.1):=F.up a ((hm a).mp E.ha);have h2:(d.2-c.2)*(b.1-c.1)<=(b.2-c.2)*(d.1-c.1):=F.up b ((hm b).mp E.hb);have h3:(b.2-a.2)*(c.1-a.1)<=(c.2-a.2)*(b.1-a.1):=E.up c ((hm c).mpr F.ha);have h4:(b.2-a.2)*(d.1-a.1)<=(d.2-a.2)*(b.1-a.1):=E.up d ((hm d).mpr F.hb);have n1:0<(R.length:Int):=by have:=List.length_pos_of_mem E.ha;omega
 have el:=E.lo;have eh:=E.hi;have fl:=F.lo;have fh:=F.hi;rw[←hn,←hs]at fl fh;have l1:a.1<d.1:=Oo (Int.lt_of_lt_of_le el fh) (iI n1);have l2:c.1<b.1:=Oo (Int.lt_of_lt_of_le fl eh) (iI n1);have r1:0<b.1-a.1:=by have:=E.lt;omega
 have r2:0<d.1-c.1:=by have:=F.lt;omega
 obtain⟨xa,ya⟩:=a;obtain⟨xb,yb⟩:=b;obtain⟨xc,yc⟩:=c;obtain⟨xd,yd⟩:=d;dsimp only at *;have k1:=xE (iI r1) (xF h1);have k2:=xE (iI r1) (xF h2);have k3:=xE (iI r2) (xF h3);have k4:=xE (iI r2) (xF h4);have e1:(xb-xa)*((ya-yc)*(xd-xc)-(yd-yc)*(xa-xc))=((yb-ya)*(xd-xc)-(yd-yc)*(xb-xa))*xa+((ya*(xb-xa)-(yb-ya)*xa)*(xd-xc)-(yc*(xd-xc)-(yd-yc)*xc)*(xb-xa)):=by grind
 have e2:(xb-xa)*((yb-yc)*(xd-xc)-(yd-yc)*(xb-xc))=((yb-ya)*(xd-xc)-(yd-yc)*(xb-xa))*xb+((ya*(xb-xa)-(yb-ya)*xa)*(xd-xc)-(yc*(xd-xc)-(yd-yc)*xc)*(xb-xa)):=by grind
 have e3:(xd-xc)*((yc-ya)*(xb-xa)-(yb-ya)*(xc-xa))=-(((yb-ya)*(xd-xc)-(yd-yc)*(xb-xa))*xc+((ya*(xb-xa)-(yb-ya)*xa)*(xd-xc)-(yc*(xd-xc)-(yd-yc)*xc)*(xb-xa))):=by grind
 have e4:(xd-xc)*((yd-ya)*(xb-xa)-(yb-ya)*(xd-xa))=-(((yb-ya)*(xd-xc)-(yd-yc)*(xb-xa))*xd+((ya*(xb-xa)-(yb-ya)*xa)*(xd-xc)-(yc*(xd-xc)-(yd-yc)*xc)*(xb-xa))):=by grind
 rw[e1]at k1;rw[e2]at k2;rw[e3]at k3;rw[e4]at k4;obtain⟨z1,z2⟩:=Na k1 k2 (by omega) (by omega) l1 l2;constructor<;>omega
noncomputable def cH(u l:Int):Int×Int:=(u/Int.gcd u l,l/Int.gcd u l)
theorem rF{u l:Int}(h:0<l):0<(Int.gcd u l:Int):=by
 have:=Op u (show l≠0 by omega);omega
theorem rG{u l:Int}:u=(cH u l).1*Int.gcd u l/\l=(cH u l).2*Int.gcd u l:=
 ⟨(qe (sw ..)).symm,(qe (xG ..)).symm⟩
theorem Ci{u l:Int}(h:0<l):Int.gcd (cH u l).1 (cH u l).2=1:=by
 obtain⟨e1,e2⟩:=rG (u:=u) (l:=l);have g:=rF (u:=u) h;have e3:Int.gcd u l=Int.gcd ((cH u l).1*Int.gcd u l) ((cH u l).2*Int.gcd u l):=by rw[←e1,←e2]
 rw[Int.gcd_mul_right]at e3;have e4:(Int.gcd u l:Int).natAbs=Int.gcd u l:=Int.natAbs_natCast _;rw[e4]at e3;have g':0<Int.gcd u l:=by omega
 exact(Nat.eq_of_mul_eq_mul_right g' (by omega:1*Int.gcd u l=Int.gcd (cH u l).1 (cH u l).2*Int.gcd u l)).symm
theorem Cj{u l:Int}(h:0<l):0<(cH u l).2:=by
 obtain⟨_,e2⟩:=rG (u:=u) (l:=l);exact DM (by rw[←e2];exact h) (rF h)
theorem Nc{p q r s:Int}(hq:0<q)(hs:0<s)(c1:Int.gcd p q=1)(c2:Int.gcd r s=1)(e:p*s=r*q):p=r/\q=s:=by
 have d1:q ∣ s:=by
  have h:q ∣ p*s:=⟨r,by rw[e,sk]⟩
  have:=Oq (k:=s) (show Int.gcd p q=1 from c1);rw[sk s p]at this;have h2:Int.gcd (p*s) q=q.natAbs:=by rw[Int.gcd_comm];exact Int.gcd_eq_natAbs_left h
  rw[h2]at this;have h3:=sw s q;rw[←this]at h3
  rwa [xH (by omega)]at h3
 have d2:s ∣ q:=by
  have h:s ∣ r*q:=⟨p,by rw[←e,sk]⟩
  have:=Oq (k:=q) (show Int.gcd r s=1 from c2);rw[sk q r]at this;have h2:Int.gcd (r*q) s=s.natAbs:=by rw[Int.gcd_comm];exact Int.gcd_eq_natAbs_left h
  rw[h2]at this;have h3:=sw q s;rw[←this]at h3
  rwa [xH (by omega)]at h3
 have e1:q=s:=Dh (DN hs d1) (DN hq d2);subst e1;exact⟨Os (by omega) e,rfl⟩
theorem Ck{u l v m:Int}(hl:0<l)(hm:0<m)(e:u*m=v*l):cH u l=cH v m:=by
 obtain⟨a1,a2⟩:=rG (u:=u) (l:=l);obtain⟨b1,b2⟩:=rG (u:=v) (l:=m);have g1:=rF (u:=u) hl;have g2:=rF (u:=v) hm;have e2:(cH u l).1*(cH v m).2=(cH v m).1*(cH u l).2:=by
  refine Os (show(Int.gcd u l:Int)*Int.gcd v m≠0 from Int.ne_of_gt (Int.mul_pos g1 g2)) ?_;have k1:(cH u l).1*(cH v m).2*((Int.gcd u l:Int)*Int.gcd v m)=((cH u l).1*Int.gcd u l)*((cH v m).2*Int.gcd v m):=by grind
  have k2:(cH v m).1*(cH u l).2*((Int.gcd u l:Int)*Int.gcd v m)=((cH v m).1*Int.gcd v m)*((cH u l).2*Int.gcd u l):=by grind
  rw[k1,k2,←a1,←a2,←b1,←b2];exact e
 obtain⟨h1,h2⟩:=Nc (Cj hl) (Cj hm) (Ci hl) (Ci hm) e2;exact Prod.ext h1 h2
theorem Nd{a b:Int}:Int.gcd a b=Int.gcd b (a%b):=by
 rw[Int.emod_def,Int.gcd_comm a b];exact(Int.gcd_sub_mul_left_right b a (a/b)).symm
section
variable{wf n:Nat}{S:aa}
theorem Nf:∀(m fuel:Nat)(a b:Int)(v:Option PV),0<=b->b<=m->m<fuel->(b=0->0<a)->∃v',cQ (ae (af D wf n) (.cmp .ne (.loc 1) (.cst (.int 0)))) (ar (af D wf n) wf sC) fuel [some (.int a),some (.int b),v] S=.ok (.next [some (.int (Int.gcd a b)),some (.int 0),v']) S:=by
 intro m
 induction m with
 |zero=>
  intro fuel a b v h0 h1 h2 h3;obtain⟨f,rfl⟩:∃f,fuel=f+1:=⟨fuel-1,by omega⟩
  obtain rfl:b=0:=by omega
  have ha:=h3 rfl;refine⟨v,?_⟩;rw[Int.gcd_zero,xH (by omega)];unfold cQ
  simp_arith[fx]
 |succ m ih=>
  intro fuel a b v h0 h1 h2 h3;obtain⟨f,rfl⟩:∃f,fuel=f+1:=⟨fuel-1,by omega⟩
  by_cases hb:b=0
  ·subst hb;have ha:=h3 rfl;refine⟨v,?_⟩;rw[Int.gcd_zero,xH (by omega)];unfold cQ
   simp_arith[fx]
  ·have e1:=DJ a hb;have e2:=DK a (show 0<b by omega);obtain⟨v',e⟩:=ih f b (a%b) (some (.int (a%b))) e1 (by omega) (by omega) (fun _=>by omega);refine⟨v',?_⟩;have ne:(b==0)=false:=by simpa using hb
   have mo:∀T,aN T .mod (.int a) (.int b)=.ok (.int (a%b)) T:=fun T=>gD (by omega);rw[Nd (a:=a)];unfold cQ
   simp_arith[ne,sC,mo];exact e
theorem Ng{a b:Int}(hb:0<b)(hw:b<wf):af D wf (n+1) 0 [.int a,.int b] S=.ok (.int (Int.gcd a b)) S:=by
 obtain⟨v',e⟩:=Nf (wf:=wf) (n:=n) (S:=S) b.toNat wf a b none (by omega) (by omega) (by omega) (fun z=>by omega);refine(aO (d:=r0.d) (p:=.int (Int.gcd a b)) (S1:=S) rfl rfl ?_).trans (ba (fG _ _));show ar (af D wf n) wf b0 [some (.int a),some (.int b),none] S=_;rw[b0]
 simp_arith[aL];rw[e]
 simp_arith[aL]
theorem wq{a b:Int}(hb:0<b):0<(Int.gcd a b:Int)/\(Int.gcd a b:Int)<=b:=by
 have h1:=Op a (show b≠0 by omega);have h2:=DN hb (xG a b);omega
theorem Cm{a b:Int}(hb:0<b)(hw:b<wf)(hz:b<1073741824):af D wf (n+2) 1 [.int a,.int b] S=.ok (.tup [.int (a/Int.gcd a b),.int (b/Int.gcd a b)]) S:=by
 obtain⟨g1,g2⟩:=wq (a:=a) hb;have cg:af D wf (n+1) 0 [.int a,.int b] S=.ok (.int (Int.gcd a b)) S:=Ng hb hw;have fd:∀T x,aN T .fdiv (.int x) (.int (Int.gcd a b))=.ok (.int (x/Int.gcd a b)) T:=fun T x=>i_ (by omega);refine(aO (d:=r1.d) (p:=.tup [.int (a/Int.gcd a b),.int (b/Int.gcd a b)]) (S1:=S) rfl rfl ?_).trans (ba rfl);show ar (af D wf (n+1)) wf b1 [some (.int a),some (.int b),none] S=_
 simp_arith[b1,cg,fd]
theorem mT{p:Pt}{T:aa}:aU T (aV p) (.int 0)=.ok (.int p.1) T:=bA rfl
theorem wt{p:Pt}{T:aa}:aU T (aV p) (.int 1)=.ok (.int p.2) T:=bA rfl
noncomputable def sm(p:Pt):Prop:=(-1000000<=p.1/\p.1<=1000000)/\-1000000<=p.2/\p.2<=1000000
instance {a b c:Pt}:Decidable (fM a b c):=inferInstanceAs (Decidable (_<_))
theorem Nh{a b c:Pt}(ha:sm a)(hb:sm b)(hc:sm c):af D wf (n+1) 2 [aV a,aV b,aV c] S=.ok (.bl (decide (fM a b c))) S:=by
 unfold sm at ha hb hc;have m1:∀T,aN T .mul (.int (b.2-a.2)) (.int (c.1-b.1))=.ok (.int ((b.2-a.2)*(c.1-b.1))) T:=fun T=>cu (.inl (by omega));have m2:∀T,aN T .mul (.int (c.2-b.2)) (.int (b.1-a.1))=.ok (.int ((c.2-b.2)*(b.1-a.1))) T:=fun T=>cu (.inl (by omega));refine(aO (d:=r2.d) (p:=.bl (decide (fM a b c))) (S1:=S) rfl rfl ?_).trans (ba (vt _ _));show ar (af D wf n) wf b2 [some (aV a),some (aV b),some (aV c)] S=_
 simp_arith[b2,mT,wt,m1,m2];rfl
noncomputable def kvs(L:List Pt):List (ao×PV):=L.map fun p=>(.inl p.1,.int p.2)
theorem Cn{L:List Pt}{x:Int}:cC (kvs L) (.inl x)=(eM L x).map PV.int:=by
 unfold cC kvs eM
 induction L with
 |nil=>rfl
 |cons p L ih=>
  simp only[aZ,List.find?_cons];by_cases h:p.1=x
  ·simp[h]
  ·have e1:decide ((Sum.inl p.1:ao)=.inl x)=false:=by simp[h]
   have e2:decide (p.1=x)=false:=by simp[h]
   rw[e1,e2];exact ih
theorem Ni{L:List Pt}{x v:Int}:dA (kvs L) (.inl x) (.int v)=kvs (jg L x v):=by
 have ea:((kvs L).any fun kv=>decide (kv.1=(.inl x:ao)))=L.any fun p=>decide (p.1=x):=by
  unfold kvs;rw[wX];congr 1;funext p;simp
 unfold dA jg;rw[ea];split
 ·unfold kvs;rw[cK,cK];refine xC fun p _=>?_;show(if (Sum.inl p.1:ao)=.inl x then (Sum.inl p.1,PV.int v) else (Sum.inl p.1,PV.int p.2))=_
  by_cases h:p.1=x
  ·simp[h]
  ·simp[h]
 ·unfold kvs;rw[kq];rfl
theorem rH{o:MO}:(S++[o])[S.length]?=some o:=by simp
theorem Co{o o':MO}:(S++[o,o'])[S.length]?=some o:=by simp
theorem lw{o o':MO}:(S++[o,o'])[S.length+1]?=some o':=by simp[List.getElem?_append]
theorem Nj{o o':MO}:(S++[o]).set S.length o'=S++[o']:=by simp
theorem Cp{o o' o2:MO}:(S++[o,o']).set (S.length+1) o2=S++[o,o2]:=by simp[List.set_append]
theorem Nk{R L:List Pt}(lo:gL R L)(hl:L.length<=1000){q:Pt}{v0 v4 v5:Option PV} :
  ar (af D wf n) wf nq [v0,some (.ref S.length),some (.int q.1),some (.int q.2),v4,v5] (S++[.dct (kvs L)]) =
   .ok (.next [v0,some (.ref S.length),some (.int q.1),some (.int q.2),v4,v5]) (S++[.dct (kvs (jg L q.1 (jh q.2 ((eM L q.1).getD q.2))))]):=by
 have hL:aj=16777216:=rfl;have kl:(kvs L).length=L.length:=aw ..;have ck:e8 (S++[.dct (kvs L)]) (.ref S.length)=.ok (.ref S.length) (S++[.dct (kvs L)]):=by simp only[e8,bB,rH]
 have gt:kU (S++[.dct (kvs L)]) (.ref S.length) (.int q.1) (.int q.2)=.ok (.int ((eM L q.1).getD q.2)) (S++[.dct (kvs L)]):=by
  simp only[kU,bB,rH,cO,Cn];cases eM L q.1<;>rfl
 have st:∀v:Int,dQ (S++[.dct (kvs L)]) (.ref S.length) (.int q.1) (.int v)=.ok () (S++[.dct (kvs (jg L q.1 v))]):=fun v=>by
  simp only[dQ,rH,cO];rw[ag (by omega),Ni,Nj]
 have mi:∀T i j,aC T .min2 [.int i,.int j]=.ok (.int (jh i j)) T:=fun T i j=>Ld
 simp_arith[nq,ck,gt,mi,st]
theorem Nl{L:List Pt}{x v:Int}:(jg L x v).length<=L.length+1:=by
 unfold jg;split
 ·rw[aw];omega
 ·rw[en];simp
theorem Nm{R:List Pt}(hR:R.length<=60){v0 v2 v3 v4 v5:Option PV}:∃L u2 u3,gL R L/\L.length<=R.length /\
  ce (ar (af D wf n) wf nq) (.many [2,3]) none (PR R) [v0,some (.ref S.length),v2,v3,v4,v5] (S++[.dct []])=.ok (.next [v0,some (.ref S.length),u2,u3,v4,v5]) (S++[.dct (kvs L)]):=by
 obtain⟨ro',S',h1,L,u2,u3,l1,l2,rfl,rfl⟩:=i9 (f:=ar (af D wf n) wf nq) (tg:=.many [2,3]) (ck:=none)
  (fun i ro T=>∃L u2 u3,gL (R.take i) L/\L.length<=i/\ro=[v0,some (.ref S.length),u2,u3,v4,v5]/\T=S++[.dct (kvs L)]) (PR R) 0 (fun i x ro T hx ⟨L,u2,u3,l1,l2,hro,hT⟩=>by
   subst hro;subst hT;rw[gX]at *;have hil:=(bF.mp hx).1;unfold PR at hx hil;rw[aw]at hil;rw[bG]at hx;cases hp:R[i]? with
   |none=>rw[hp]at hx;cases hx
   |some q=>
    rw[hp]at hx;cases hx;have pl:=Nl (L:=L) (x:=q.1) (v:=jh q.2 ((eM L q.1).getD q.2));refine⟨bL _,_,_,_,pr,Nk l1 (by omega),_,.inl rfl,_,_,_,?_,by omega,rfl,rfl⟩;rw[nj,hp];exact l1.put q) (fun _ _ _=>bL _) [v0,some (.ref S.length),v2,v3,v4,v5] (S++[.dct []]) ⟨[],v2,v3,⟨by simp,fun _ h=>by simp at h,fun _ h=>by simp at h⟩,aF _,rfl,rfl⟩
 have pl:(PR R).length=R.length:=aw ..;rw[pl,gX]at l1 l2;rw[m_]at l1;exact⟨L,u2,u3,l1,l2,h1⟩
end
section
variable{wf n:Nat}{S:aa}
theorem Nn{xs:List PV}{x y:PV}:bn (xs++[x,y]) (-1)=some y:=qt (by simp)
theorem No{xs:List PV}{x y:PV}:bn (xs++[x,y]) (-2)=some x:=by
 unfold bn eR;rw[av (by decide),ag (by simp;omega)];have e:((-2:Int)+((xs++[x,y]).length:Int)).toNat=xs.length:=by simp only[en,List.length_cons,List.length_nil];omega
 rw[e];simp
theorem Cq{o:MO}{xs:List PV}{k:Int}{x:PV}(h:bn xs k=some x):aU (S++[o,.lst xs]) (.ref (S.length+1)) (.int k)=.ok x (S++[o,.lst xs]):=by
 simp only[aU,aE,lw,h]
theorem rI{o:MO}{xs:List PV}:aC (S++[o,.lst xs]) .len [.ref (S.length+1)]=.ok (.int xs.length) (S++[o,.lst xs]):=by
 simp only[aC,dP,aE,lw]
theorem wu{o:MO}{xs:List PV}:cj (S++[o,.lst xs]) (.ref (S.length+1))=.ok (.ref (S.length+1)) (S++[o,.lst xs]):=by
 simp only[cj,lw]
theorem Np{o:MO}{xs:List PV}{x:PV}:jJ (S++[o,.lst (xs++[x])]) (.ref (S.length+1))=.ok x (S++[o,.lst xs]):=by
 simp only[jJ,lw,Cp];simp
theorem Cr{o:MO}{xs:List PV}{x:PV}(h:xs.length<aj):gw (S++[o,.lst xs]) (.ref (S.length+1)) x=.ok .non (S++[o,.lst (xs++[x])]):=by
 simp only[gw,lw,Cp];rw[ag h]
theorem Cs{b:Pt}{r:List Pt}:PR (b::r).reverse=PR r.reverse++[aV b]:=by
 unfold PR;simp
theorem Ct{a b:Pt}{r:List Pt}:PR (b::a::r).reverse=PR r.reverse++[aV a,aV b]:=by
 unfold PR;simp
theorem rJ{l:List Pt}:(PR l.reverse).length=l.length:=by unfold PR;simp
noncomputable def pL:Ex:=.and (.cmp .gt (.bi .len [.loc 4]) (.cst (.int 1))) (.not (.call 2 [.idx (.loc 4) (.neg (.cst (.int 2))),.idx (.loc 4) (.neg (.cst (.int 1))),.loc 5]))
theorem Cu{P:Pt->Prop}{p:Pt}(hp:sm p)(hP:∀q,P q->sm q){o:MO}{v0 v1 v2 v3:Option PV}:∀(r:List Pt)(b:Pt)(fuel:Nat),r.length<fuel->kc P p b r->∃b' r',kc P p b' r'/\(∀a∈r'.head?,fM a b' p)/\r'.length<=r.length /\
  cQ (ae (af D wf (n+1)) pL) (ar (af D wf (n+1)) wf sD) fuel [v0,v1,v2,v3,some (.ref (S.length+1)),some (aV p)] (S++[o,.lst (PR (b::r).reverse)]) =
   .ok (.next [v0,v1,v2,v3,some (.ref (S.length+1)),some (aV p)]) (S++[o,.lst (PR (b'::r').reverse)])
 |[],b,fuel,hf,J=>by
  obtain⟨f,rfl⟩:∃f,fuel=f+1:=⟨fuel-1,by omega⟩
  refine⟨b,[],J,(fun a h=>nomatch h),aF _,?_⟩;unfold cQ pL
  simp_arith[rI,rJ,List.length_cons,List.length_nil]
  simp_arith[show decide ((1:Int)<((0+1:Nat):Int))=false from rfl]
 |a::r,b,fuel,hf,J=>by
  obtain⟨f,rfl⟩:∃f,fuel=f+1:=⟨fuel-1,by omega⟩
  have hl:decide ((1:Int)<(((b::a::r).length:Nat):Int))=true:=gP (by simp only[List.length_cons];omega);have i1:aU (S++[o,.lst (PR (b::a::r).reverse)]) (.ref (S.length+1)) (.int (-1))=.ok (aV b) (S++[o,.lst (PR (b::a::r).reverse)]):=Cq (by rw[Ct];exact Nn);have i2:aU (S++[o,.lst (PR (b::a::r).reverse)]) (.ref (S.length+1)) (.int (-2))=.ok (aV a) (S++[o,.lst (PR (b::a::r).reverse)]):=Cq (by rw[Ct];exact No);have cb:af D wf (n+1) 2 [aV a,aV b,aV p] (S++[o,.lst (PR (b::a::r).reverse)])=.ok (.bl (decide (fM a b p))) (S++[o,.lst (PR (b::a::r).reverse)]):=Nh (hP a (J.mem a (by simp))) (hP b (J.mem b (by simp))) hp;by_cases hb:fM a b p
  ·refine⟨b,a::r,J,fun z hz=>by cases hz;exact hb,aF _,?_⟩;unfold cQ pL
   simp_arith[rI,rJ,hl,i1,i2,cb,gP hb]
  ·obtain⟨b',r',k1,k2,k3,k4⟩:=Cu hp hP (v0:=v0) (v1:=v1) (v2:=v2) (v3:=v3) (o:=o) r a f (by rw[List.length_cons]at hf;omega) (J.pop hb);refine⟨b',r',k1,k2,by rw[List.length_cons];omega,?_⟩;have po:jJ (S++[o,.lst (PR (b::a::r).reverse)]) (.ref (S.length+1))=.ok (aV b) (S++[o,.lst (PR (a::r).reverse)]):=by
    rw[Cs];exact Np
   unfold cQ pL
   simp_arith[rI,rJ,hl,i1,i2,cb,eN hb,sD,wu,po];exact k4
noncomputable def HS(P:Pt->Prop)(C:List Pt):Prop:=(C=[]/\∀q,¬P q)\/∃b r,C=(b::r).reverse/\fu P b r
theorem Nq{L:List Pt}{P:Pt->Prop}{C:List Pt}{p:Pt}(hc:HS P C)(hC:C.length<=60)(hwf:70<=wf)(hv:eM L p.1=some p.2)(hp:sm p)(hP:∀q,P q->sm q)(far:∀q,P q->q.1<p.1){v0 v3 v5:Option PV}:∃C',HS (fun q=>P q\/q=p) C'/\C'.length<=C.length+1 /\
  ar (af D wf (n+1)) wf lS [v0,some (.ref S.length),some (.int p.1),v3,some (.ref (S.length+1)),v5] (S++[.dct (kvs L),.lst (PR C)]) =
   .ok (.next [v0,some (.ref S.length),some (.int p.1),v3,some (.ref (S.length+1)),some (aV p)]) (S++[.dct (kvs L),.lst (PR C')]):=by
 have hL:aj=16777216:=rfl;have ix:aU (S++[.dct (kvs L),.lst (PR C)]) (.ref S.length) (.int p.1)=.ok (.int p.2) (S++[.dct (kvs L),.lst (PR C)]):=by
  simp only[aU,aE,Co,gv,bB,cO,Cn,hv,Option.map_some]
 have cl:∀l:List Pt,(PR l).length=l.length:=fun l=>aw ..;have zp:PV.tup [.int p.1,.int p.2]=aV p:=rfl;obtain⟨f,rfl⟩:∃f,wf=f+1:=⟨wf-1,by omega⟩
 rcases hc with ⟨rfl,h0⟩|⟨b,r,rfl,hu⟩
 ·refine⟨[p],.inr ⟨p,[],rfl,fu.start.imp fun q=>⟨fun z=>.inr z,fun z=>?_⟩⟩,by simp,?_⟩
  ·rcases z with z|z
   ·exact absurd z (h0 q)
   ·exact z
  ·rw[lS]
   simp_arith[ix,zp];unfold cQ
   simp_arith[rI,cl,List.length_nil,show decide ((1:Int)<((0:Nat):Int))=false from rfl,wu,Cr (show(PR []).length<aj by rw[cl];decide)];rfl
 ·have hb:b.1<p.1:=far b (hu.mem b (by simp));have hl:(b::r).length<=60:=by rw[iH]at hC;exact hC
  rw[List.length_cons]at hl;obtain⟨b',r',k1,k2,k3,k4⟩:=Cu (wf:=f+1) (n:=n) (S:=S) hp hP (o:=.dct (kvs L)) (v0:=v0) (v1:=some (.ref S.length)) (v2:=some (.int p.1)) (v3:=v3) r b (f+1) (by omega) (hu.go hb);refine⟨(p::b'::r').reverse,.inr ⟨p,b'::r',rfl,k1.push k2 far⟩,by simp only[iH,List.length_cons];omega,?_⟩;unfold pL at k4;rw[lS]
  simp_arith[ix,zp];rw[k4]
  simp_arith[wu,Cr (show(PR (b'::r').reverse).length<aj by rw[rJ,List.length_cons];omega)];rw[Cs (b:=p)]
end
theorem Cv{l:List Int}:(dk l).Perm l:=wZ _ _
theorem Nr(l:List Int):(dk l).Pairwise (·<=·):=by
 have h:=Di (le:=fun(a b:Int)=>decide (a<=b)) (fun a b c h1 h2=>by simp at *;omega) (fun a b=>by simp;omega) l;exact h.imp fun h=>by simpa using h
theorem Nt{l:List Int}(nd:l.Nodup):(dk l).Pairwise (·<·):=by
 have h1:=Nr l;have h2:(dk l).Nodup:=Cv.nodup_iff.mpr nd;exact(List.Pairwise.and h1 h2).imp fun⟨a,b⟩=>by omega
theorem HS.imp{P K:Pt->Prop}{C:List Pt}(h:HS P C)(e:∀q,P q↔K q):HS K C:=by
 have:P=K:=funext fun q=>propext (e q);exact this ▸ h
section
variable{wf n:Nat}{S:aa}
theorem ints_map:∀l:List Int,de (l.map PV.int)=some l
 |[]=>rfl
 |i::l=>by simp only[aZ,de,ints_map l]
theorem Nu{L:List Pt}{o:MO}(hl:L.length<64):aC (S++[.dct (kvs L),o]) .sorted [.ref S.length]=.ok (.lst ((dk (L.map (·.1))).map PV.int)) (S++[.dct (kvs L),o]):=by
 have e1:((kvs L).map (·.1)).map eZ=(L.map (·.1)).map PV.int:=by unfold kvs;rw[cK,cK,cK];rfl
 show nH (S++[.dct (kvs L),o]) (.ref S.length)=_;simp only[nH,bB,Co,nG,e1,ints_map];rw[ag (by rw[aw];exact hl)]
theorem Nv{R L:List Pt}(lo:gL R L)(hl:L.length<=60)(hwf:70<=wf)(hR:∀q∈R,sm q){v0 v2 v3 v5:Option PV}:∃C u2 u5,HS (·∈L) C/\C.length<=L.length /\
  ce (ar (af D wf (n+1)) wf lS) (.one 2) none ((dk (L.map (·.1))).map PV.int) [v0,some (.ref S.length),v2,v3,some (.ref (S.length+1)),v5] (S++[.dct (kvs L),.lst []]) =
   .ok (.next [v0,some (.ref S.length),u2,v3,some (.ref (S.length+1)),u5]) (S++[.dct (kvs L),.lst (PR C)]):=by
 obtain⟨K,hK⟩:∃K,K=dk (L.map (·.1)):=⟨_,rfl⟩
 have kp:K.Perm (L.map (·.1)):=hK ▸ Cv;have kl:K.Pairwise (·<·):=hK ▸ Nt lo.nd;rw[←hK];obtain⟨ro',S',h1,C,u2,u5,l1,l2,rfl,rfl⟩:=i9 (f:=ar (af D wf (n+1)) wf lS) (tg:=.one 2) (ck:=none)
  (fun i ro T=>∃C u2 u5,HS (fun q=>q∈L/\q.1∈K.take i) C/\C.length<=i/\ro=[v0,some (.ref S.length),u2,v3,some (.ref (S.length+1)),u5]/\T=S++[.dct (kvs L),.lst (PR C)]) (K.map PV.int) 0 (fun i x ro T hx ⟨C,u2,u5,l1,l2,hro,hT⟩=>by
   subst hro;subst hT;rw[gX]at *;have hil:=(bF.mp hx).1;rw[aw]at hil;rw[bG,a6 hil]at hx;cases hx;have hkl:K.length=L.length:=by rw[kp.length_eq,aw]
   obtain⟨⟨x,v⟩,hm,hxe⟩:=bc.mp (kp.mem_iff.mp (lP hil));have hxe:x=K[i]:=hxe;rw[←hxe];have far:∀q:Pt,(q∈L/\q.1∈K.take i)->q.1<(x,v).1:=fun q ⟨_,hq⟩=>by
    obtain⟨j,hj,e⟩:=List.mem_take_iff_getElem.mp hq;have:=List.pairwise_iff_getElem.mp kl j i (by omega) hil (by omega);show q.1<x;omega
   obtain⟨C',c1,c2,c3⟩:=Nq (wf:=wf) (n:=n) (S:=S) (L:=L) (p:=(x,v)) l1 (by omega) hwf (M6 lo.nd hm) (hR _ (lo.mem _ hm)) (fun q hq=>hR q (lo.mem q hq.1)) far (v0:=v0) (v3:=v3) (v5:=u5);refine⟨bL _,_,_,_,rfl,c3,_,.inl rfl,C',_,_,c1.imp fun q=>?_,by omega,rfl,rfl⟩;rw[nj,a6 hil,gO];constructor
   ·rintro(⟨h1,h2⟩|rfl)
    ·exact⟨h1,.inl h2⟩
    ·exact⟨hm,.inr (by simp[hxe])⟩
   ·rintro⟨h1,h2|h2⟩
    ·exact .inl ⟨h1,h2⟩
    ·refine .inr ?_;have e1:q.1=x:=by rw[hxe];simpa using h2
     obtain⟨q1,q2⟩:=q;have e1:q1=x:=e1;subst e1;rw[rE lo.nd h1 hm]) (fun _ _ _=>bL _) [v0,some (.ref S.length),v2,v3,some (.ref (S.length+1)),v5] (S++[.dct (kvs L),.lst []]) ⟨[],v2,v5,.inl ⟨rfl,fun q ⟨_,h⟩=>by simp at h⟩,aF _,rfl,rfl⟩
 rw[aw,gX]at l1 l2;refine⟨C,u2,u5,l1.imp fun q=>⟨fun z=>z.1,fun z=>⟨z,?_⟩⟩,by rw[kp.length_eq,aw]at l2;exact l2,h1⟩;rw[m_];exact kp.mem_iff.mpr (bc.mpr ⟨q,z,rfl⟩)
theorem qZ{k:Nat}:∀{ps:List (Int×Int)},bz k (PR ps)=true
 |[]=>rfl
 |p::ps=>by
  have:=qZ (k:=k) (ps:=ps);unfold PR at this ⊢;rw[aZ];simp only[bz,aV,below,this,gY]
theorem Nw{o:MO}{xs:List PV}(hx:bz S.length xs=true):bX S (S++[o,.lst xs]) (.ref (S.length+1))=.ok (.lst xs) S:=by
 have ho:oR S (S++[o,.lst xs]):=fun i o hi e=>.inl (by rwa [dI hi]at e);unfold bX;rw[ag ⟨ho,by simp⟩,av (by simp[below])];simp only[lw];rw[ag hx];simp
theorem Nx{R:List Pt}(hn:R≠[])(hl:R.length<=60)(hwf:70<=wf)(hR:∀q∈R,sm q):∃L b r,gL R L/\fu (·∈L) b r/\(b::r).length<=60/\af D wf (n+2) 3 [.tup (PR R)] S=.ok (.lst (PR (b::r).reverse)) S:=by
 have hL:aj=16777216:=rfl;obtain⟨L,u2,u3,lo,ll,e1⟩:=Nm (wf:=wf) (n:=n+1) (S:=S) (R:=R) hl (v0:=some (.tup (PR R))) (v2:=none) (v3:=none) (v4:=none) (v5:=none);obtain⟨C,w2,w5,hs,cl,e2⟩:=Nv (wf:=wf) (n:=n) (S:=S) lo (by omega) hwf hR (v0:=some (.tup (PR R))) (v2:=u2) (v3:=u3) (v5:=none);rcases hs with ⟨rfl,h0⟩|⟨b,r,rfl,hu⟩
 ·obtain⟨q,hq⟩:=List.exists_mem_of_ne_nil R hn;obtain⟨v,hv,_⟩:=lo.all q hq;exact absurd hv (h0 _)
 refine⟨L,b,r,lo,hu,by rw[iH]at cl;omega,(aO (d:=r3.d) (p:=.ref (S.length+1)) (S1:=S++[.dct (kvs L),.lst (PR (b::r).reverse)]) rfl rfl ?_).trans (Nw qZ)⟩;show ar (af D wf (n+1)) wf b3 [some (.tup (PR R)),none,none,none,none,none] S=_;have di:fb S.length [] [] (S++[.dct []])=.ok (.ref S.length) (S++[.dct []]):=by
  simp only[fb,rH];rw[ag ⟨by decide,rfl⟩];simp[kP]
 have la:(S++[MO.dct (kvs L)]).length=S.length+1:=by simp
 have lb:S++[MO.dct (kvs L)]++[MO.lst []]=S++[.dct (kvs L),.lst []]:=by simp
 rw[b3]
 simp_arith[di,show a8 (S++[.dct []]) .seq [.tup (PR R)]=some ⟨PR R,none⟩ from rfl];rw[e1]
 simp_arith[la,lb,Nu (show L.length<64 by omega)];rw[e2]
 simp_arith[aL]
end
section
variable{wf n:Nat}{S:aa}
theorem rK{b:Pt}{r:List Pt}{k:Nat}(h:k<(b::r).length):(b::r).reverse[k]?=(b::r)[(b::r).length-1-k]?:=Du h
noncomputable def pM:Ex:=.cmp .lt (.bin .mul (.idx (.idx (.loc 1) (.loc 3)) (.cst (.int 0))) (.bi .len [.loc 0])) (.loc 2)
theorem Ny{R C:List Pt}{X:Int}(hR:R.length<=1000)(hC:∀q∈C,sm q)(hlast:∀q,C[C.length-1]?=some q->X<=q.1*R.length):∀(m k fuel:Nat),C.length=k+1+m->1<=k->m<fuel->(∀p,C[k-1]?=some p->p.1*R.length<X)->∃k':Nat,1<=k'/\k'<C.length/\(∀p,C[k'-1]?=some p->p.1*R.length<X)/\(∀q,C[k']?=some q->X<=q.1*R.length) /\
  cQ (ae (af D wf n) pM) (ar (af D wf n) wf sE) fuel [some (.tup (PR R)),some (.lst (PR C)),some (.int X),some (.int (k:Int))] S=.ok (.next [some (.tup (PR R)),some (.lst (PR C)),some (.int X),some (.int (k':Int))]) S:=by
 intro m;have at_:∀{k:Nat}{q:Pt},C[k]?=some q->∀T,aU T (.lst (PR C)) (.int (k:Int))=.ok (aV q) T:=fun {k q} h T=>lr (j5 (by unfold PR;rw[bG,h];rfl));have pl:(PR R).length=R.length:=aw ..
 induction m with
 |zero=>
  intro k fuel hk h1 hf hp;obtain⟨f,rfl⟩:∃f,fuel=f+1:=⟨fuel-1,by omega⟩
  obtain⟨q,hq⟩:∃q,C[k]?=some q:=⟨C[k]'(by omega),a6 ..⟩
  have hx:=hlast q (by rw[show C.length-1=k by omega];exact hq);have hs:=hC q (jm hq);unfold sm at hs;have mu:∀T,aN T .mul (.int q.1) (.int (R.length:Nat))=.ok (.int (q.1*R.length)) T:=fun T=>cu (.inl (by omega));have d0:decide (q.1*(R.length:Int)<X)=false:=eN (by omega);refine⟨k,h1,by omega,hp,fun q' h'=>?_,?_⟩
  ·rw[hq]at h';cases h';exact hx
  unfold cQ pM
  simp_arith[at_ hq,mT,pl,mu,d0]
 |succ m ih=>
  intro k fuel hk h1 hf hp;obtain⟨f,rfl⟩:∃f,fuel=f+1:=⟨fuel-1,by omega⟩
  obtain⟨q,hq⟩:∃q,C[k]?=some q:=⟨C[k]'(by omega),a6 ..⟩
  have hs:=hC q (jm hq);unfold sm at hs;have mu:∀T,aN T .mul (.int q.1) (.int (R.length:Nat))=.ok (.int (q.1*R.length)) T:=fun T=>cu (.inl (by omega));by_cases hx:q.1*(R.length:Int)<X
  ·obtain⟨k',a1,a2,a3,a4,a5⟩:=ih (k+1) f (by omega) (by omega) (by omega) (fun p h=>by rw[show k+1-1=k by omega,hq]at h;cases h;exact hx);refine⟨k',a1,a2,a3,a4,?_⟩;have d0:decide (q.1*(R.length:Int)<X)=true:=gP hx;unfold cQ pM
   simp_arith[at_ hq,mT,pl,mu,d0,sE];exact a5
  ·refine⟨k,h1,by omega,hp,fun q' h'=>?_,?_⟩
   ·rw[hq]at h';cases h';omega
   have d0:decide (q.1*(R.length:Int)<X)=false:=eN hx;unfold cQ pM
   simp_arith[at_ hq,mT,pl,mu,d0]
theorem Nz{l:List Int}{T:aa}:aC T .sum [.lst (l.map PV.int)]=.ok (.int l.sum) T:=vD
theorem Cw{R:List Pt}{T:aa}:bW (ae (af D wf n) (.loc 0)) (.many [0,1]) none (PR R) [none,none] T=.ok ((R.map (·.1)).map PV.int) T:=by
 have e:=dF (f:=ae (af D wf n) (.loc 0)) (tg:=.many [0,1]) (S:=T) aV (fun q=>.int q.1) (fun ro=>∃a b,ro=[a,b]) R (fun q _ ro ⟨a,b,hro⟩=>by
  subst hro;exact⟨_,pr,rfl,_,_,rfl⟩) [none,none] ⟨_,_,rfl⟩
 rw[cK];exact e
theorem Cy{R:List Pt}(h2:∃p∈R,∃q∈R,p.1<q.1)(hl:R.length<=60)(hwf:70<=wf)(hR:∀q∈R,sm q):∃a b,fN R a b/\af D wf (n+3) 4 [.tup (PR R)] S=.ok (.tup [aV a,aV b]) S:=by
 have hL:aj=16777216:=rfl;obtain⟨p0,hp0,q0,hq0,hlt⟩:=h2;obtain⟨L,b,r,lo,hu,cl,e1⟩:=Nx (wf:=wf) (n:=n) (S:=S) (R:=R) (xz hp0) hl hwf hR;have hi:=M_ lo hu;have sl:=Cf hi;obtain⟨z,hz⟩:∃z,(b::r).getLast?=some z:=⟨(b::r).getLast (by simp),List.getLast?_eq_getLast (by simp)⟩
 have lz:=M9 lo hu hz;have hzl:z.1<q0.1:=Int.lt_of_le_of_lt (lz p0 hp0) hlt;have sz:=Ch lz hq0 hzl;have r2:2<=(b::r).length:=by
  cases r with
  |nil=>
   obtain rfl:b=z:=by simpa using hz
   have:=hi q0 hq0;omega
  |cons a r=>simp
 have hC:∀q∈(b::r).reverse,sm q:=fun q hq=>hR q (lo.mem q (hu.mem q (List.mem_reverse.mp hq)));have rl:(b::r).reverse.length=(b::r).length:=iH;have h0:(b::r).reverse[1-1]?=some z:=by
  rw[rK (by omega),←hz,Dy];rfl
 obtain⟨k,k1,k2,k3,k4,k5⟩:=Ny (wf:=wf) (n:=n+2) (S:=S) (R:=R) (C:=(b::r).reverse) (X:=(R.map (·.1)).sum) (by omega) hC (fun q h=>by
  rw[rl,rK (by omega),show(b::r).length-1-((b::r).length-1)=0 by omega]at h;cases h;exact sl) ((b::r).length-2) 1 wf (by omega) (by omega) (by omega) (fun p h=>by rw[h0]at h;cases h;exact sz)
 rw[rl]at k2;obtain⟨q,hq⟩:∃q,(b::r).reverse[k]?=some q:=⟨(b::r).reverse[k]'(by rw[rl];omega),a6 ..⟩
 obtain⟨p,hp⟩:∃p,(b::r).reverse[k-1]?=some p:=⟨(b::r).reverse[k-1]'(by rw[rl];omega),a6 ..⟩
 have E:fN R p q:=M8 (l:=[]) lo hu (j:=(b::r).length-1-k) (by rw[←rK (by omega)];exact hq) (by rw[show(b::r).length-1-k+1=(b::r).length-1-(k-1) by omega,←rK (by omega)];exact hp) (k4 q hq) (k3 p hp);have at_:∀{j:Nat}{q:Pt},(b::r).reverse[j]?=some q->∀T,aU T (.lst (PR (b::r).reverse)) (.int (j:Int))=.ok (aV q) T:=fun {j q} h T=>lr (j5 (by unfold PR;rw[bG,h];rfl));refine⟨p,q,E,(aO (d:=r4.d) (p:=.tup [aV p,aV q]) (S1:=S) rfl rfl ?_).trans (ba rfl)⟩;show ar (af D wf (n+2)) wf b4 [some (.tup (PR R)),none,none,none] S=_;unfold pM at k5;rw[b4]
 simp_arith[e1,show a8 S .seq [.tup (PR R)]=some ⟨PR R,none⟩ from rfl,bt];rw[Cw]
 simp_arith[aw,ag (show R.length<=aj by omega),Nz];rw[show((1:Nat):Int)=1 from rfl]at k5;rw[k5]
 simp_arith[at_ hq,show(k:Int)-1=((k-1:Nat):Int) by omega,at_ hp]
end
theorem Cz{l:List Int}:∀{s:List Int}{x:Int},x∈l.foldl PyProof.Rows.step_dedup s↔x∈s\/x∈l:=by
 induction l with
 |nil=>intro s x;simp
 |cons y l ih=>
  intro s x;rw[List.foldl_cons,ih];have e:x∈PyProof.Rows.step_dedup s y↔x∈s\/x=y:=by
   unfold PyProof.Rows.step_dedup;split
   ·rename_i h;obtain⟨z,hz,e⟩:=qb.mp h;have e:z=y:=by simpa using e
    subst e;exact⟨.inl,fun h=>h.elim id fun e=>e ▸ hz⟩
   ·simp
  rw[e,aP,or_assoc]
theorem NA{l:List Int}:∀{s:List Int},s.Nodup->(l.foldl PyProof.Rows.step_dedup s).Nodup:=by
 induction l with
 |nil=>intro s h;exact h
 |cons y l ih=>
  intro s h;rw[List.foldl_cons];refine ih ?_;unfold PyProof.Rows.step_dedup;split
  ·exact h
  ·rename_i hn;refine wU.mpr ⟨h,by simp,fun a ha b hb=>?_⟩;simp at hb;subst hb;intro z;subst z;exact hn (qb.mpr ⟨_,ha,by simp⟩)
theorem CA{l:List Int}(h:¬fC l<2):∃x∈l,∃y∈l,x<y:=by
 unfold fC at h;have nd:=NA (l:=l) (s:=[]) (by simp);have mm:=@Cz l []
 match e:l.foldl PyProof.Rows.step_dedup [],h with
 |[],h=>simp at h
 |[_],h=>simp at h
 |x::y::r,_=>
  rw[e]at nd mm;have hx:x∈l:=by simpa using (mm (x:=x)).mp (by simp)
  have hy:y∈l:=by simpa using (mm (x:=y)).mp (by simp)
  have ne:x≠y:=fun z=>(pU.mp nd).1 (by simp[z]);by_cases hlt:x<y
  ·exact⟨x,hx,y,hy,hlt⟩
  ·exact⟨y,hy,x,hx,by omega⟩
theorem CB{l:List Int}{x y:Int}(hx:x∈l)(hy:y∈l)(ne:x≠y):¬fC l<2:=by
 unfold fC;have mm:=@Cz l []
 match e:l.foldl PyProof.Rows.step_dedup []with
 |[]=>
  rw[e]at mm;exact absurd ((mm (x:=x)).mpr (.inr hx)) (by simp)
 |[z]=>
  rw[e]at mm;have h1:=(mm (x:=x)).mpr (.inr hx);have h2:=(mm (x:=y)).mpr (.inr hy);simp at h1 h2;exact absurd (h1.trans h2.symm) ne
 |a::b::r=>simp
section
variable{wf n:Nat}{S:aa}
theorem NB{l:List Int}(hl:l.length<1000){T:aa}:kW T (.lst (l.map PV.int))=.ok (.int (fC l)) T:=by
 have e:dO T (.lst (l.map PV.int))=some l:=ints_map l;simp only[kW,e];rw[ag hl]
noncomputable def cx(a b:Pt):Int×Int:=((b.2-a.2)/Int.gcd (b.2-a.2) (b.1-a.1),(b.1-a.1)/Int.gcd (b.2-a.2) (b.1-a.1))
noncomputable def bP(a b:Pt):Int×Int:=((a.2*(b.1-a.1)-(b.2-a.2)*a.1)/Int.gcd (a.2*(b.1-a.1)-(b.2-a.2)*a.1) (b.1-a.1),(b.1-a.1)/Int.gcd (a.2*(b.1-a.1)-(b.2-a.2)*a.1) (b.1-a.1))
noncomputable def gM(s h:Int×Int):PV:=.tup [aV s,aV h]
theorem NC{a b:Pt}(hl:a.1<b.1):M3 a b (cx a b).1 (cx a b).2 (bP a b).1 (bP a b).2:=by
 obtain⟨p1,_⟩:=wq (a:=b.2-a.2) (show 0<b.1-a.1 by omega);obtain⟨p2,_⟩:=wq (a:=a.2*(b.1-a.1)-(b.2-a.2)*a.1) (show 0<b.1-a.1 by omega);have e2:b.1-a.1=(cx a b).2*Int.gcd (b.2-a.2) (b.1-a.1):=(qe (xG ..)).symm;have e4:b.1-a.1=(bP a b).2*Int.gcd (a.2*(b.1-a.1)-(b.2-a.2)*a.1) (b.1-a.1):=(qe (xG ..)).symm;refine⟨?_,?_,_,_,p1,p2,(qe (sw ..)).symm,e2,(qe (sw ..)).symm,e4⟩
 ·exact DM (by rw[←e2];omega) p1
 ·exact DM (by rw[←e4];omega) p2
theorem ND{R:List Pt}(h:¬fC (R.map (·.1))<2)(hl:R.length<=60)(hwf:70<=wf)(hw:∀p∈R,∀q∈R,q.1-p.1<wf)(hR:∀q∈R,sm q):∃a b,fN R a b/\af D wf (n+4) 5 [.tup (PR R)] S=.ok (gM (cx a b) (bP a b)) S:=by
 have hL:aj=16777216:=rfl;obtain⟨x,hx,y,hy,hlt⟩:=CA h;obtain⟨p,hp,rfl⟩:=bc.mp hx;obtain⟨q,hq,rfl⟩:=bc.mp hy;obtain⟨a,b,E,e1⟩:=Cy (wf:=wf) (n:=n) (S:=S) ⟨p,hp,q,hq,hlt⟩ hl hwf hR;have sa:=hR a E.ha;have sb:=hR b E.hb;unfold sm at sa sb;have hlt:=E.lt;have hww:=hw a E.ha b E.hb;have d0:decide (((fC (R.map (·.1)):Nat):Int)<2)=false:=eN (by omega);have f1:af D wf (n+3) 1 [.int (b.2-a.2),.int (b.1-a.1)] S=.ok (aV (cx a b)) S:=Cm (n:=n+1) (by omega) hww (by omega);have f2:af D wf (n+3) 1 [.int (a.2*(b.1-a.1)-(b.2-a.2)*a.1),.int (b.1-a.1)] S=.ok (aV (bP a b)) S:=Cm (n:=n+1) (by omega) hww (by omega);have m1:∀T,aN T .mul (.int a.2) (.int (b.1-a.1))=.ok (.int (a.2*(b.1-a.1))) T:=fun T=>cu (.inl (by omega));have m2:∀T,aN T .mul (.int (b.2-a.2)) (.int a.1)=.ok (.int ((b.2-a.2)*a.1)) T:=fun T=>cu (.inr (by omega));have i0:∀T,aU T (.tup [aV a,aV b]) (.int 0)=.ok (aV a) T:=fun T=>bA rfl;have i1:∀T,aU T (.tup [aV a,aV b]) (.int 1)=.ok (aV b) T:=fun T=>bA rfl;refine⟨a,b,E,(aO (d:=r5.d) (p:=gM (cx a b) (bP a b)) (S1:=S) rfl rfl ?_).trans (ba rfl)⟩;show ar (af D wf (n+3)) wf b5 [some (.tup (PR R)),none,none,none,none] S=_;rw[b5]
 simp_arith[show a8 S .seq [.tup (PR R)]=some ⟨PR R,none⟩ from rfl,bt];rw[Cw]
 simp_arith[aw,ag (show R.length<=aj by omega),NB (show(R.map (·.1)).length<1000 by rw[aw];omega),d0,e1,i0,i1,mT,wt,m1,m2,f1,f2];rfl
end
theorem NE{R:List Pt}{a b:Pt}(E:fN R a b):¬fC (R.map (·.1))<2:=
 CB (bc.mpr ⟨a,E.ha,rfl⟩) (bc.mpr ⟨b,E.hb,rfl⟩) (Int.ne_of_lt E.lt)
theorem NF{R:List Pt}{a b c d:Pt}(E:fN R a b)(F:fN R c d):cx c d=cx a b/\bP c d=bP a b:=by
 obtain⟨e1,e2⟩:=Nb E F (fun _=>Iff.rfl) rfl rfl;have l1:=E.lt;have l2:=F.lt;exact⟨(Ck (show 0<b.1-a.1 by omega) (show 0<d.1-c.1 by omega) e1).symm,(Ck (show 0<b.1-a.1 by omega) (show 0<d.1-c.1 by omega) e2).symm⟩
section
variable{wf n:Nat}{S:aa}
theorem CC{R:List Pt}{a b:Pt}(E:fN R a b)(hl:R.length<=60)(hwf:70<=wf)(hw:∀p∈R,∀q∈R,q.1-p.1<wf)(hR:∀q∈R,sm q):af D wf (n+4) 5 [.tup (PR R)] S=.ok (gM (cx a b) (bP a b)) S:=by
 obtain⟨c,d,F,e⟩:=ND (wf:=wf) (n:=n) (S:=S) (NE E) hl hwf hw hR;obtain⟨e1,e2⟩:=NF E F;rw[e1,e2]at e;exact e
theorem NG{R:List Pt}(h:¬fC (R.map (·.1))<2)(hl:R.length<=60)(hR:∀q∈R,sm q):∃a b,fN R a b:=by
 obtain⟨x,hx,y,hy,hlt⟩:=CA h;obtain⟨p,hp,rfl⟩:=bc.mp hx;obtain⟨q,hq,rfl⟩:=bc.mp hy;obtain⟨a,b,E,_⟩:=Cy (wf:=70) (n:=0) (S:=[]) ⟨p,hp,q,hq,hlt⟩ hl (by decide) hR;exact⟨a,b,E⟩
noncomputable def mU(s h:Int×Int):Prop:=(0<s.2/\s.2<=30000)/\(0<h.2/\h.2<=30000)
theorem NH{R:List Pt}{a b:Pt}(E:fN R a b)(hw:b.1-a.1<=30000):mU (cx a b) (bP a b):=by
 have l:=NC E.lt;have hlt:=E.lt;have d1:(cx a b).2<=b.1-a.1:=Int.ediv_le_self _ (by omega);have d2:(bP a b).2<=b.1-a.1:=Int.ediv_le_self _ (by omega);have:=l.s;have:=l.h;unfold mU;omega
theorem NI{s h:Int×Int}(l:mU s h):0<s.2*h.2/\s.2*h.2<1073741824:=by
 unfold mU at l;have k1:=Int.mul_pos l.1.1 l.2.1;have k2:s.2*h.2<=30000*30000:=Int.mul_le_mul l.1.2 l.2.2 (by omega) (by omega);omega
noncomputable def gN(s h:Int×Int)(q:Pt):Int:=-(-(wp s.1 s.2 h.1 h.2 q)/(s.2*h.2))
theorem NJ{s h:Int×Int}(l:mU s h){q:Pt}(hq:sm q):af D wf (n+1) 6 [gM s h,.int q.1,.int q.2] S=.ok (.int (gN s h q)) S:=by
 obtain⟨k1,k2⟩:=NI l;unfold mU at l;unfold sm at hq;have i0:∀T,aU T (gM s h) (.int 0)=.ok (aV s) T:=fun T=>bA rfl;have i1:∀T,aU T (gM s h) (.int 1)=.ok (aV h) T:=fun T=>bA rfl;have m1:∀T x,aN T .mul (.int x) (.int s.2)=.ok (.int (x*s.2)) T:=fun T x=>cu (.inr (by omega));have m2:∀T x,aN T .mul (.int x) (.int h.2)=.ok (.int (x*h.2)) T:=fun T x=>cu (.inr (by omega));have m3:∀T x,aN T .mul (.int x) (.int q.1)=.ok (.int (x*q.1)) T:=fun T x=>cu (.inr (by omega));have fd:∀T x,aN T .fdiv (.int x) (.int (s.2*h.2))=.ok (.int (x/(s.2*h.2))) T:=fun T x=>i_ (by omega);have e:q.2*s.2*h.2-s.1*q.1*h.2-h.1*s.2=wp s.1 s.2 h.1 h.2 q:=by unfold wp;grind
 refine(aO (d:=r6.d) (p:=.int (gN s h q)) (S1:=S) rfl rfl ?_).trans (ba (fG _ _));show ar (af D wf n) wf b6 [some (gM s h),some (.int q.1),some (.int q.2),none,none,none] S=_
 simp_arith[b6,i0,i1,mT,wt,m1,m2,m3,e,fd];rfl
theorem NK{R:List Pt}{a b:Pt}(E:fN R a b)(hl:R.length<=60)(hwf:70<=wf)(hw:∀p∈R,∀q∈R,q.1-p.1<wf)(hR:∀q∈R,sm q)(hb:b.1-a.1<=30000):af D wf (n+5) 7 [.tup (PR R)] S=.ok (.tup ((R.map (gN (cx a b) (bP a b))).map PV.int)) S:=by
 have hL:aj=16777216:=rfl;have l:=NH E hb;have c:=CC (wf:=wf) (n:=n) (S:=S) E hl hwf hw hR;refine(aO (d:=r7.d) (p:=.tup ((R.map (gN (cx a b) (bP a b))).map PV.int)) (S1:=S) rfl rfl ?_).trans (ba (gC _ _));show ar (af D wf (n+4)) wf b7 [some (.tup (PR R)),none] S=_;have cp:=dF (f:=ae (af D wf (n+4)) (.call 6 [.loc 2,.loc 0,.loc 1])) (tg:=.many [0,1]) (S:=S) aV (fun q=>.int (gN (cx a b) (bP a b) q)) (fun ro=>∃x y,ro=[x,y,some (gM (cx a b) (bP a b))]) R (fun q hq ro ⟨x,y,hro⟩=>by
  subst hro;have ch:af D wf (n+4) 6 [gM (cx a b) (bP a b),.int q.1,.int q.2] S=.ok (.int (gN (cx a b) (bP a b) q)) S:=NJ (n:=n+3) l (hR q hq);exact⟨_,pr,by simp_arith[ch],_,_,rfl⟩) [none,none,some (gM (cx a b) (bP a b))] ⟨_,_,rfl⟩
 rw[show R.map aV=PR R from rfl,show R.map (fun q=>PV.int (gN (cx a b) (bP a b) q))=(R.map (gN (cx a b) (bP a b))).map PV.int by rw[cK];rfl]at cp
 simp_arith[b7,c,jM,bt,Option.getD_some];rw[cp]
 simp_arith[aw,ag (show R.length<=aj by omega)]
end
theorem wv{wf n:Nat}{ws:List (Int×Int)}{S:aa}(hl:ws.length<=1000):af D wf (n+1) 40 [.tup (PR ws)] S=.ok (.lst ((bV ws).map PV.int)) S:=by
 have hL:aj=16777216:=rfl;refine(aO (d:=yu.d) (p:=.lst ((bV ws).map PV.int)) (S1:=S) rfl rfl ?_).trans (ba (Lp _ _));show ar (af D wf n) wf tj [some (.tup (PR ws))] S=_
 simp_arith[tj,bt];rw[show PR ws=ws.map aV from rfl,dF _ (fun w=>.int (w.2-w.1)) (fun ro=>∃a b,ro=[a,b]) _ (fun w _ ro ⟨a,b,hro⟩=>by
  subst hro;exact⟨_,pr,by simp_arith[aL],_,_,rfl⟩) _ ⟨_,_,rfl⟩]
 simp_arith[aw,ag (show ws.length<=aj by omega)];unfold bV;rw[cK];rfl
theorem CD{wf n:Nat}{ws:List (Int×Int)}{w:Int}{S:aa}(hl:ws.length<=1000):af D wf (n+2) 41 [.tup (PR ws),.int w] S=.ok (.int (fH (bV ws) w)) S:=by
 have hL:aj=16777216:=rfl;have hdl:(bV ws).length=ws.length:=vI;refine(aO (d:=yw.d) (p:=.int (fH (bV ws) w)) (S1:=S) rfl rfl ?_).trans (ba (fG _ _));show ar (af D wf (n+1)) wf tm [some (.tup (PR ws)),some (.int w)] S=_
 simp_arith[tm,wv hl,bt,Option.getD_some];rw[vG _ (fun d=>.int d) (fun d=>decide (w<d)) (fun ro=>∃a,ro=[a,some (.int w)]) _ (fun d _ ro ⟨a,hro⟩=>by
  subst hro;exact⟨_,.bl (decide (w<d)),rfl,by simp_arith[aL],rfl,rfl,_,rfl⟩) _ ⟨_,rfl⟩]
 have hle:fH (bV ws) w<=aj:=by have:=Lv (ds:=bV ws) (w:=w);omega
 unfold fH at hle ⊢
 simp_arith[aw,ag hle]
theorem NL{wf n m:Nat}{ws:List (Int×Int)}{S:aa}(hl:ws.length<64):af D wf (n+2) 42 [.tup (PR ws),.int m] S=.ok (if m<ws.length then .int (q_ (bV ws) m) else .non) S:=by
 have hdl:(bV ws).length=ws.length:=vI;have c0:decide ((m:Int)<0)=false:=by rw[DB];omega
 by_cases h:m<ws.length
 ·rw[ag h];have c1:decide ((ws.length:Int)<=(m:Int))=false:=by rw[DB];omega
  refine(aO (d:=tu.d) (p:=.int (q_ (bV ws) m)) (S1:=S) rfl rfl ?_).trans (ba (fG _ _));show ar (af D wf (n+1)) wf nw [some (.tup (PR ws)),some (.int m)] S=_
  simp_arith[nw,c0,Bz,c1,wv (show ws.length<=1000 by omega),Lz (show(bV ws).length<64 by omega)];rw[lr (getD_at (show m<(iS (bV ws)).length by rw[Lx];omega))]
  simp_arith[aL];rfl
 ·rw[av h];have c1:decide ((ws.length:Int)<=(m:Int))=true:=by rw[gT];omega
  refine(aO (d:=tu.d) (p:=.non) (S1:=S) rfl rfl ?_).trans (ba (jZ _));show ar (af D wf (n+1)) wf nw [some (.tup (PR ws)),some (.int m)] S=_
  simp_arith[nw,c0,Bz,c1]
theorem NM{wf n:Nat}{ws:List (Int×Int)}{S:aa}(hl:ws.length<=1000):af D wf (n+2) 43 [.tup (PR ws)] S=.ok (.int (vK (bV ws))) S:=by
 have hL:aj=16777216:=rfl;have hdl:(bV ws).length=ws.length:=vI;generalize hds:bV ws=ds at hdl;obtain⟨ro',g1,v3,rfl⟩:=A7 (f:=ar (af D wf (n+1)) wf tB) (tg:=.one 3) (S:=S) (fun i ro=>∃v3,ro=[some (.tup (PR ws)),some (.lst (ds.map PV.int)),some (.int (((ly ds).take i).foldl vJ 0)),v3]) (bI 1 (ds.length-1)) (fun i x ro hi ⟨v3,hro⟩=>by
  subst hro;have hil:i<ds.length-1:=by
   have:=(bF.mp hi).1
   rwa [ja]at this
  unfold bI at hi;rw[bG,lQ hil]at hi;have hx:PV.int (1+(i:Int))=x:=by simpa using hi
  subst hx;have e1:bn (ds.map PV.int) (1+(i:Int))=some (.int (ds.getD (i+1) 0)):=by
   rw[show 1+(i:Int)=((i+1:Nat):Int) by omega];exact getD_at (by omega)
  have e2:bn (ds.map PV.int) (1+(i:Int)-1)=some (.int (ds.getD i 0)):=by
   rw[show 1+(i:Int)-1=(i:Int) by omega];exact getD_at (by omega)
  refine⟨_,[some (.tup (PR ws)),some (.lst (ds.map PV.int)),some (.int (((ly ds).take (i+1)).foldl vJ 0)),some (.int (1+(i:Int)))],rfl,.inl ?_,_,rfl⟩;rw[nj,Lr (show i+1<ds.length by omega),List.foldl_append]
  simp_arith[tB,lr e1,lr e2,i_ (show(0:Int)<16/\(16:Int)<1073741824 by decide)];rfl) (ro:=[some (.tup (PR ws)),some (.lst (ds.map PV.int)),some (.int 0),none]) ⟨none,rfl⟩
 refine(aO (d:=yx.d) (p:=.int (vK ds)) (S1:=S) rfl rfl ?_).trans (ba (fG _ _));show ar (af D wf (n+1)) wf tD [some (.tup (PR ws)),none,none,none] S=_;rw[tD]
 simp_arith[wv hl,hds,aw,Lf (show -(2 ^ 62)<=(1:Int)/\(1:Int)<2 ^ 62 by decide) (show -(2 ^ 62)<=(ds.length:Int)/\(ds.length:Int)<2 ^ 62 by omega),show((ds.length:Int)-1).toNat=ds.length-1 by omega];rw[g1,ja,qa (by rw[Lq];exact aF _)]
 simp_arith[aL];rfl
noncomputable def a9(p:Int×List Int):PV:=.tup [.int p.1,.tup (p.2.map PV.int)]
theorem CF:∀x y:List Int,∃c,eI (x.map PV.int) (y.map PV.int)=some c
 |[],y=>⟨_,by simp only[ez,eI];rfl⟩
 |a::x,[]=>⟨_,by simp only[ez,aZ,eI];rfl⟩
 |a::x,b::y=>by
  obtain⟨c,h⟩:=CF x y;simp only[aZ,eI,eG];split
  ·exact⟨c,h⟩
  ·exact⟨_,rfl⟩
theorem CG{xs ys:List PV}:eG (.tup xs) (.tup ys)=eI xs ys:=by simp only[eG]
theorem NN(p q:Int×List Int):∃c,eG (a9 p) (a9 q)=some c/\(c=true->p.1<=q.1)/\(c=false->q.1<=p.1):=by
 unfold a9;have e:b_ (.int p.1) (.int q.1)=(p.1==q.1):=rfl;rw[CG,ut,ut,CG,e];obtain⟨c,hc⟩:=CF p.2 q.2;cases h:p.1==q.1 with
 |true=>
  have h:=aB h;cases b_ (.tup (p.2.map PV.int)) (.tup (q.2.map PV.int))with
  |true=>exact⟨false,by simp[eI],fun _=>by omega,fun _=>by omega⟩
  |false=>exact⟨c,hc,fun _=>by omega,fun _=>by omega⟩
 |false=>exact⟨_,rfl,fun e=>by have:=si e;omega,fun e=>by have:=of_decide_eq_false e;omega⟩
noncomputable def kd:Int×List Int->List (Int×List Int)->Int×List Int
 |b,[]=>b
 |b,x::l=>if eG (a9 x) (a9 b)=some true then kd x l else kd b l
theorem rM:∀(l:List (Int×List Int))(b:Int×List Int),iT (a9 b) (l.map a9)=some (a9 (kd b l))/\kd b l∈b::l/\∀q∈b::l,(kd b l).1<=q.1
 |[],b=>⟨rfl,bK ..,fun q hq=>by simp at hq;subst hq;exact iE _⟩
 |x::l,b=>by
  obtain⟨c,h1,h2,h3⟩:=NN x b;simp only[aZ,iT,kd,h1];cases c with
  |true=>
   obtain⟨a1,a2,a3⟩:=rM l x;rw[ag rfl];refine⟨a1,bq _ a2,fun q hq=>?_⟩;rcases aP.mp hq with rfl|hq
   ·have:=a3 x (bK ..);have:=h2 rfl;omega
   ·exact a3 q hq
  |false=>
   obtain⟨a1,a2,a3⟩:=rM l b;rw[av (by simp)];have a4:=a3 b (bK ..);refine⟨a1,?_,fun q hq=>?_⟩
   ·rcases aP.mp a2 with e|e
    ·rw[e];exact bK ..
    ·exact bq _ (bq _ e)
   ·rcases aP.mp hq with rfl|hq
    ·exact a4
    ·rcases aP.mp hq with rfl|hq
     ·have:=h3 rfl;omega
     ·exact a3 q (bq _ hq)
noncomputable def lH:List (Int×List Int)->Int×List Int
 |[]=>(0,[])
 |p::l=>kd p l
theorem CI{l:List (Int×List Int)}(h:l≠[]):lH l∈l/\∀q∈l,(lH l).1<=q.1:=by
 cases l with
 |nil=>exact absurd rfl h
 |cons p l=>exact(rM l p).2
theorem CK(d:Nat):∀x:List Int,a_ (x.map PV.int) d=true
 |[]=>rfl
 |a::x=>by simp only[aZ,a_,aM,CK d x,gY]
theorem CL:∀l:List (Int×List Int),a_ (l.map a9) 20=true
 |[]=>rfl
 |p::l=>by simp only[aZ,a_,aM,a9,CK,CL l,gY]
theorem CM{S:aa}{l:List (Int×List Int)}(h:l≠[]):aC S .min2 [.lst (l.map a9)]=.ok (a9 (lH l)) S:=by
 cases l with
 |nil=>exact absurd rfl h
 |cons p l=>
  have e:jI S (.lst (a9 p::l.map a9))=.ok (a9 (kd p l)) S:=by
   unfold jI t8 qy;rw[show dO S (.lst (a9 p::l.map a9))=none from rfl];dsimp only;rw[show iQ S (.lst (a9 p::l.map a9))=some (a9 p::l.map a9) from rfl];dsimp only;rw[ag (show a_ (a9 p::l.map a9) 20=true from CL (p::l)),(rM l p).1]
  exact e
noncomputable def iw(ts:List (List (Int×Int)))(fee ch:Int)(ws:List Int):Nat->Int
 |0=>0
 |k+1=>iw ts fee ch ws k+ws.getD k 0+fee*fH (bV (ts.getD k [])) (ws.getD k 0)+(if 0<k then ch*pv (ws.getD k 0-ws.getD (k-1) 0) else 0)
noncomputable def cI(ch:Int)(ws:List Int)(w:Int):Int:=match ws.getLast? with|some l=>ch*pv (w-l)|none=>0
noncomputable def CN(m:Int)(ws:List Int):Prop:=∀w∈ws,0<=w/\w<=m
theorem ww{ws l:List Int}{k:Nat}(h:k<ws.length):(ws++l).getD k 0=ws.getD k 0:=by
 rw[cJ,cJ,dI h]
theorem CO{ts:List (List (Int×Int))}{fee ch:Int}{ws l:List Int}:∀k,k<=ws.length->iw ts fee ch (ws++l) k=iw ts fee ch ws k
 |0,_=>rfl
 |k+1,h=>by
  simp only[iw];rw[CO k (by omega),ww (show k<ws.length by omega)];by_cases hk:0<k
  ·rw[ag hk,ag hk,ww (show k-1<ws.length by omega)]
  ·rw[av hk,av hk]
theorem NO{ws:List Int}{w:Int}:(ws++[w]).getD ws.length 0=w:=by
 rw[cJ,fP (aF _),wV];rfl
theorem NP{ws:List Int}(h:0<ws.length):ws.getLast?=some (ws.getD (ws.length-1) 0):=by
 rw[Dy,cJ,a6 (by omega)];rfl
theorem CP{ts:List (List (Int×Int))}{fee ch w:Int}{ws:List Int}:iw ts fee ch (ws++[w]) (ws.length+1)=iw ts fee ch ws ws.length+cI ch ws w+(w+fee*fH (bV (ts.getD ws.length [])) w):=by
 simp only[iw];rw[CO _ (aF _),NO];unfold cI;by_cases hk:0<ws.length
 ·rw[ag hk,NP hk,ww (show ws.length-1<ws.length by omega)];dsimp only;omega
 ·have:ws=[]:=Dq.mp (by omega);subst this;simp[iw]
noncomputable def ji(pl:List (Int×List Int))(w own ch:Int):Int×List Int:=((lH (pl.map fun p=>(p.1+cI ch p.2 w,p.2))).1+own,(lH (pl.map fun p=>(p.1+cI ch p.2 w,p.2))).2++[w])
noncomputable def cT(ts:List (List (Int×Int)))(fee ch:Int)(m:Nat):Nat->List (Int×List Int)
 |0=>[(0,[])]
 |k+1=>(List.range (m+1)).map fun(i:Nat)=>ji (cT ts fee ch m k) i (i+fee*fH (bV (ts.getD k [])) i) ch
noncomputable def NQ(ts:List (List (Int×Int)))(fee ch m:Int)(k:Nat)(pl:List (Int×List Int)):Prop:=
 pl≠[]/\(∀p∈pl,p.2.length=k/\CN m p.2/\p.1=iw ts fee ch p.2 k)/\∀ws:List Int,ws.length=k->CN m ws->∃p∈pl,p.2.getLast?=ws.getLast?/\p.1<=iw ts fee ch ws k
theorem wx{ts:List (List (Int×Int))}{fee ch:Int}{m:Nat}:∀k,NQ ts fee ch m k (cT ts fee ch m k)
 |0=>by
  refine⟨by simp[cT],fun p hp=>?_,fun ws hw _=>?_⟩
  ·simp[cT]at hp;subst hp;exact⟨rfl,fun w hw=>(nomatch hw),rfl⟩
  ·have:ws=[]:=Dq.mp hw;subst this;exact⟨(0,[]),by simp[cT],rfl,iE _⟩
 |k+1=>by
  obtain⟨h1,h2,h3⟩:=wx (ts:=ts) (fee:=fee) (ch:=ch) (m:=m) k;have hin:∀w:Int,∃p∈cT ts fee ch m k,lH ((cT ts fee ch m k).map fun p=>(p.1+cI ch p.2 w,p.2))=(p.1+cI ch p.2 w,p.2)/\∀q∈cT ts fee ch m k,p.1+cI ch p.2 w<=q.1+cI ch q.2 w:=fun w=>by
   obtain⟨a1,a2⟩:=CI (l:=(cT ts fee ch m k).map fun p=>(p.1+cI ch p.2 w,p.2)) (by simpa using h1);obtain⟨p,hp,e⟩:=bc.mp a1;refine⟨p,hp,e.symm,fun q hq=>?_⟩;have:=a2 _ (bc.mpr ⟨q,hq,rfl⟩);rw[←e]at this;exact this
  refine⟨by simp[cT],fun p hp=>?_,fun ws hw hf=>?_⟩
  ·simp only[cT,bc,gh]at hp;obtain⟨i,hi,rfl⟩:=hp;obtain⟨p,hp,e,_⟩:=hin i;obtain⟨b1,b2,b3⟩:=h2 p hp;unfold ji;rw[e];refine⟨by simp[b1],fun w hw=>?_,?_⟩
   ·rcases gO.mp hw with hw|hw
    ·exact b2 w hw
    ·simp at hw;subst hw;omega
   ·dsimp only;rw[show k+1=p.2.length+1 by rw[b1],CP,b3,b1]
  ·obtain⟨a,w,rfl⟩:=BA (l:=ws) (by intro e;subst e;cases hw);rw[en]at hw;have ha:a.length=k:=by simpa using hw
   have hw':=hf w (by simp);obtain⟨q,hq,e1,e2⟩:=h3 a ha fun x hx=>hf x (by simp[hx]);obtain⟨p,hp,e,hle⟩:=hin w;have hle:=hle q hq;refine⟨ji (cT ts fee ch m k) w (w+fee*fH (bV (ts.getD k [])) w) ch,?_,?_,?_⟩
   ·simp only[cT,bc,gh];exact⟨w.toNat,by omega,by rw[show((w.toNat:Nat):Int)=w by omega]⟩
   ·unfold ji;simp
   ·unfold ji;rw[e];dsimp only;rw[show k+1=a.length+1 by rw[ha],CP,ha];have e3:cI ch q.2 w=cI ch a w:=by unfold cI;rw[e1]
    omega
noncomputable def mV(ts:List (List (Int×Int)))(fee ch:Int)(m:Nat):Int×List Int:=lH (cT ts fee ch m ts.length)
theorem NR{wf n:Nat}{ws:List Int}{w ch:Int}{S:aa}(hc:0<=ch/\ch<=1000):af D wf (n+1) 44 [.tup (ws.map PV.int),.int w,.int ch] S=.ok (.int (cI ch ws w)) S:=by
 refine(aO (d:=yy.d) (p:=.int (cI ch ws w)) (S1:=S) rfl rfl ?_).trans (ba (fG _ _));show ar (af D wf n) wf qi [some (.tup (ws.map PV.int)),some (.int w),some (.int ch)] S=_;by_cases h:ws=[]
 ·subst h
  simp_arith[qi,ez,vB,List.isEmpty_nil];rfl
 ·obtain⟨a,x,rfl⟩:=BA h;have e1:((a++[x]).map PV.int).isEmpty=false:=by simp
  have e2:aU S (.tup ((a++[x]).map PV.int)) (.int (-1))=.ok (.int x) S:=bA (by rw[kq];exact Ls);have e3:cI ch (a++[x]) w=ch*pv (w-x):=by unfold cI;simp
  simp_arith[qi,vB,e1,e2];rw[cu (show(-(2 ^ 64)<ch/\ch<2 ^ 64)\/_ from .inl ⟨by omega,by omega⟩),e3]
  simp_arith[aL];rfl
theorem NS{wf n:Nat}{pl:List (Int×List Int)}{w own ch:Int}{S:aa}(hc:0<=ch/\ch<=1000)(hn:pl≠[])(hl:pl.length<=1000)(hw:∀p∈pl,p.2.length<=1000):af D wf (n+2) 45 [.lst (pl.map a9),.int w,.int own,.int ch] S=.ok (a9 (ji pl w own ch)) S:=by
 have hL:aj=16777216:=rfl;refine(aO (d:=yz.d) (p:=a9 (ji pl w own ch)) (S1:=S) rfl rfl ?_).trans (ba vE);show ar (af D wf (n+1)) wf tE [some (.lst (pl.map a9)),some (.int w),some (.int own),some (.int ch),none,none] S=_
 simp_arith[tE,bt,Option.getD_some];rw[dF _ (fun p=>a9 (p.1+cI ch p.2 w,p.2)) (fun ro=>∃a b,ro=[a,b,some (.int ch),some (.int w)]) _ (fun p _ ro ⟨a,b,hro⟩=>by
  subst hro;exact⟨_,pr,by simp_arith[NR hc];rfl,_,_,rfl⟩) _ ⟨_,_,rfl⟩]
 have e:(pl.map fun p=>a9 (p.1+cI ch p.2 w,p.2))=(pl.map fun p=>(p.1+cI ch p.2 w,p.2)).map a9:=by rw[cK];rfl
 have hne:(pl.map fun p=>(p.1+cI ch p.2 w,p.2))≠[]:=by simpa using hn
 obtain⟨p,hp,hq⟩:=bc.mp (CI hne).1;have hlen:=hw p hp;rw[e]
 simp_arith[aw,ag (show pl.length<=aj by omega),CM hne];unfold ji;rw[←hq];have i0:∀T,aU T (a9 (p.1+cI ch p.2 w,p.2)) (.int 0)=.ok (.int (p.1+cI ch p.2 w)) T:=fun T=>bA rfl;have i1:∀T,aU T (a9 (p.1+cI ch p.2 w,p.2)) (.int 1)=.ok (.tup (p.2.map PV.int)) T:=fun T=>bA rfl
 simp_arith[i0,i1];rw[pq (by rw[aw];show _+1<=aj;omega)]
 simp_arith[a9,kq]
noncomputable def iy(ts:List (List (Int×Int))):List PV:=ts.map fun r=>.tup (PR r)
theorem NT{ts:List (List (Int×Int))}{fee ch:Int}{m:Nat}:∀k,(cT ts fee ch m k).length<=m+1
 |0=>by simp[cT]
 |k+1=>by simp[cT]
theorem NU{wf n:Nat}{ts:List (List (Int×Int))}{fee ch most:Int}{S:aa}(hc:0<=ch/\ch<=1000)(hf:0<=fee/\fee<=1000)(hm:0<=most/\most<=900)(hr:∀r∈ts,r.length<=1000)(hl:ts.length<=1000):af D wf (n+3) 46 [.tup (iy ts),.int fee,.int ch,.int most] S=.ok (a9 (mV ts fee ch most.toNat)) S:=by
 have hL:aj=16777216:=rfl;refine(aO (d:=yA.d) (p:=a9 (mV ts fee ch most.toNat)) (S1:=S) rfl rfl ?_).trans (ba vE);show ar (af D wf (n+2)) wf tG [some (.tup (iy ts)),some (.int fee),some (.int ch),some (.int most),none,none] S=_;obtain⟨ro',g1,v5,rfl⟩:=A7 (f:=ar (af D wf (n+2)) wf tF) (tg:=.one 5) (S:=S) (fun i ro=>∃v5,ro=[some (.tup (iy ts)),some (.int fee),some (.int ch),some (.int most),some (.lst ((cT ts fee ch most.toNat i).map a9)),v5]) (iy ts) (fun i x ro hi ⟨v5,hro⟩=>by
  subst hro;have hil:i<ts.length:=by
   have:=(bF.mp hi).1
   rwa [iy,aw]at this
  have hx:x=.tup (PR (ts.getD i [])):=by
   unfold iy at hi;rw[bG,a6 hil]at hi;rw[cJ,a6 hil];exact(eO hi).symm
  have hrl:(ts.getD i []).length<=1000:=hr _ (by rw[cJ,a6 hil];exact lP hil);subst hx;refine⟨_,[some (.tup (iy ts)),some (.int fee),some (.int ch),some (.int most),some (.lst ((cT ts fee ch most.toNat (i+1)).map a9)),some (.tup (PR (ts.getD i [])))],rfl,.inl ?_,_,rfl⟩;obtain⟨b1,b2,_⟩:=wx (ts:=ts) (fee:=fee) (ch:=ch) (m:=most.toNat) i;have b3:=NT (ts:=ts) (fee:=fee) (ch:=ch) (m:=most.toNat) i;have m0:(if (0:Int)>most then 0 else most)=most:=by rw[av (by omega)]
  simp_arith[tF,m0,eJ (show -(2 ^ 62)<=most+1/\most+1<2 ^ 62 by omega),bt,Option.getD_some];rw[show(most+1).toNat=most.toNat+1 by omega,lx,dF _ (fun(j:Nat)=>a9 (ji (cT ts fee ch most.toNat i) j (j+fee*fH (bV (ts.getD i [])) j) ch)) (fun ro=>∃a,ro=[a,some (.int ch),some (.int fee),some (.lst ((cT ts fee ch most.toNat i).map a9)),some (.tup (PR (ts.getD i [])))]) _ (fun j _ ro ⟨a,hro⟩=>by
   subst hro;refine⟨_,rfl,?_,_,rfl⟩;rw[qc]
   simp_arith[CD hrl,cu (show(-(2 ^ 64)<fee/\fee<2 ^ 64)\/_ from .inl ⟨by omega,by omega⟩)];rw[NS hc b1 (by omega) (fun p hp=>by rw[(b2 p hp).1];omega)]) _ ⟨_,rfl⟩]
  simp_arith[aw,du,ag (show most.toNat+1<=aj by omega),cT,cK];rfl) (ro:=[some (.tup (iy ts)),some (.int fee),some (.int ch),some (.int most),some (.lst ([(0,[])].map a9)),none]) ⟨none,rfl⟩
 rw[tG];rw[show([(0,[])]:List (Int×List Int)).map a9=[.tup [.int 0,.tup []]] from rfl]at g1
 simp_arith[aL];rw[g1];have e:(iy ts).length=ts.length:=by unfold iy;rw[aw]
 simp_arith[e,CM (wx ts.length).1];rfl
mutual
theorem NV{k:Nat}:∀(x:PV)(d:Nat),aM x d=true->below k x=true
 |.non,_,_=>rfl
 |.bl _,_,_=>rfl
 |.int _,_,_=>rfl
 |.str _,_,_=>rfl
 |.tup xs,d+1,h=>pN xs d h
 |.lst xs,d+1,h=>pN xs d h
 |.tup _,0,h=>nomatch h
 |.lst _,0,h=>nomatch h
 |.ref _,_,h=>nomatch h
theorem pN{k:Nat}:∀(xs:List PV)(d:Nat),a_ xs d=true->bz k xs=true
 |[],_,_=>rfl
 |x::xs,d,h=>by
  have h':(aM x d&&a_ xs d)=true:=h;rw[aG]at h';show(below k x&&bz k xs)=true;rw[NV x d h'.1,pN xs d h'.2];rfl
end
mutual
theorem CQ:∀(x:PV)(d:Nat),aM x d=true->b_ x x=true
 |.non,_,_=>rfl
 |.bl b,_,_=>by simp only[b_,fx]
 |.int i,_,_=>by simp only[b_,fx]
 |.str s,_,_=>by simp only[b_,fx]
 |.tup xs,d+1,h=>wy xs d h
 |.lst xs,d+1,h=>wy xs d h
 |.tup _,0,h=>nomatch h
 |.lst _,0,h=>nomatch h
 |.ref _,_,h=>nomatch h
theorem wy:∀(xs:List PV)(d:Nat),a_ xs d=true->fU xs xs=true
 |[],_,_=>rfl
 |x::xs,d,h=>by
  have h':(aM x d&&a_ xs d)=true:=h;rw[aG]at h';show(b_ x x&&fU xs xs)=true;rw[CQ x d h'.1,wy xs d h'.2];rfl
end
theorem wz{S:aa}{x:PV}(h:aM x 60=true):aK S .ne x x=.ok (.bl false) S:=by
 refine(ag (gR.mpr ⟨h,h⟩)).trans ?_;rw[CQ x 60 h];rfl
noncomputable def M0:Mk:=fun i j=>i==1&&j==0
noncomputable def gr(rs:List (List Int)):Nat->Nat->List Int:=fun i j=>if i=0 then rs.getD j [] else rs.reverse.getD j []
structure pO(q:Nat)(rs:List (List Int)):Prop where
 q1:q<=5
 lo:2<=rs.length
 hi:rs.length<=4
 sz:fZ q rs
theorem pP{q:Nat}{rs:List (List Int)}{P:List (List Int)->Prop}(h:pO q rs)(h2:∀a b,P [a,b])(h3:∀a b c,P [a,b,c])(h4:∀a b c d,P [a,b,c,d]):P rs:=by
 have lo:=h.lo;have hi:=h.hi
 match rs,lo,hi with
 |[a,b],_,_=>exact h2 a b
 |[a,b,c],_,_=>exact h3 a b c
 |[a,b,c,d],_,_=>exact h4 a b c d
 |[],z,_=>exact absurd z (by decide)
 |[_],z,_=>simp only[List.length_cons,List.length_nil]at z;omega
 |_::_::_::_::_::_,_,z=>simp only[List.length_cons]at z;omega
section
variable{q:Nat}{rs:List (List Int)}(h:pO q rs)
include h
theorem NW:PV.tup [.tup (TR rs),.tup (.non::TR (rs.reverse.drop 1))]=FP 2 rs.length (gr rs) M0:=pP (P:=fun rs=>PV.tup [.tup (TR rs),.tup (.non::TR (rs.reverse.drop 1))]=FP 2 rs.length (gr rs) M0) h (fun _ _=>rfl) (fun _ _ _=>rfl) (fun _ _ _ _=>rfl)
theorem NY:PV.tup [.tup ((bu q rs).map PV.int),.tup ((bu q rs.reverse).map PV.int)]=SP 2 rs.length q (gr rs):=pP (P:=fun rs=>PV.tup [.tup ((bu q rs).map PV.int),.tup ((bu q rs.reverse).map PV.int)]=SP 2 rs.length q (gr rs)) h (fun _ _=>rfl) (fun _ _ _=>rfl) (fun _ _ _ _=>rfl)
theorem NZ:PV.tup ((rs.zip rs.reverse).map fun p=>.tup ((bu q [p.1,p.2]).map PV.int))=SP rs.length 2 q (fun a b=>gr rs b a):=pP (P:=fun rs=>PV.tup ((rs.zip rs.reverse).map fun p=>.tup ((bu q [p.1,p.2]).map PV.int))=SP rs.length 2 q (fun a b=>gr rs b a)) h (fun _ _=>rfl) (fun _ _ _=>rfl) (fun _ _ _ _=>rfl)
theorem N0:ka 2 rs.length (bS 2 rs.length M0) M0=false:=pP (P:=fun rs=>ka 2 rs.length (bS 2 rs.length M0) M0=false) h (fun _ _=>rfl) (fun _ _ _=>rfl) (fun _ _ _ _=>rfl)
theorem N1:ka 2 rs.length (bS 2 rs.length (bS 2 rs.length M0)) (bS 2 rs.length M0)=true:=pP (P:=fun rs=>ka 2 rs.length (bS 2 rs.length (bS 2 rs.length M0)) (bS 2 rs.length M0)=true) h (fun _ _=>rfl) (fun _ _ _=>rfl) (fun _ _ _ _=>rfl)
theorem wA:fZ q rs.reverse:=fun r hr=>h.sz r (List.mem_reverse.mp hr)
theorem N2:jX 2 rs.length q (gr rs):=by
 have hq:=h.q1;have hi:=h.hi;refine⟨by decide,by omega,by omega,fun i j hi hj=>?_⟩;unfold gr;have key:∀l:List (List Int),fZ q l->j<l.length->(l.getD j []).length=q/\gE (l.getD j []):=fun l hl hjl=>by
  rw[cJ,a6 hjl];exact hl _ (lP hjl)
 split
 ·exact key rs h.sz hj
 ·exact key rs.reverse (wA h) (by rw[iH];exact hj)
theorem N3{wf n:Nat}{S:aa}(hwf:3<=wf):af D wf (n+7) 25 [FP 2 rs.length (gr rs) M0,SP 2 rs.length q (gr rs),SP rs.length 2 q (fun a b=>gr rs b a)] S=.ok (FP 2 rs.length (gr rs) (bS 2 rs.length M0)) S:=by
 have g:=N2 h;refine(aO (d:=xZ.d) (p:=FP 2 rs.length (gr rs) (bS 2 rs.length M0)) (S1:=S) rfl rfl ?_).trans (ba B_);show ar (af D wf (n+6)) wf sX [some (FP 2 rs.length (gr rs) M0),some (SP 2 rs.length q (gr rs)),some (SP rs.length 2 q (fun a b=>gr rs b a)),none,none] S=_;obtain⟨f,rfl⟩:∃f,wf=f+1+1:=⟨wf-2,by omega⟩
 rw[sX]
 simp_arith[MR g,cQ,MT,N0 h,N1 h,xY,iF,gZ]
end
noncomputable def t1(x:Int)(q:Nat)(r:List Int)(rs:List (List Int)):List PV:=[.int (mP (x-70000) 5),TI (cX [x,5,65535]),TI ([x,-1,70000].map (·%65536)),TI (dE x r),.tup [.int (mL (dE x r)),TI (dY (dE x r))],TI (bu q (r::rs)),TI (jb q rs (bu q (r::rs))),FP 2 (r::rs).length (gr (r::rs)) (bS 2 (r::rs).length M0)]
theorem wB(l:List Int)(d:Nat):aM (TI l) (d+1)=true:=iq d l
theorem CS{x:Int}{q:Nat}{r:List Int}{rs:List (List Int)}:a_ (t1 x q r rs) 58=true:=by
 unfold t1;simp only[a_,wB,wk,aM,gY]
theorem N4{wf n q:Nat}{x:Int}{r:List Int}{rs:List (List Int)}{S:aa}(h:pO q (r::rs))(hx:0<=x/\x<65536)(hwf:3<=wf):af D wf (n+8) 52 [.int x,.tup (TR (r::rs))] S=.ok (.tup (t1 x q r rs)) S:=by
 have hL:aj=16777216:=rfl;have hq:=h.q1;have hlen:rs.length+1<=4:=h.hi;obtain⟨hr,hrs⟩:=h.sz r bK;have hsr:fZ q rs:=fun z hz=>h.sz z (bq _ hz);refine(aO (d:=yG.d) (p:=.tup (t1 x q r rs)) (S1:=S) rfl rfl ?_).trans (ba (pN _ 58 CS));show ar (af D wf (n+7)) wf tJ [some (.int x),some (.tup (TR (r::rs))),none,none,none,none] S=_;obtain⟨P,hP⟩:∃P,P=PV.tup (TR (r::rs)):=⟨_,rfl⟩
 have i0:aU S P (.int 0)=.ok (.tup (r.map PV.int)) S:=by rw[hP];exact bA (j5 (i:=0) rfl)
 have c1:=BZ (wf:=wf) (n:=n+5) (x:=x) (ss:=r) (S:=S) (by omega);have c2:=rn (wf:=wf) (k:=n+6) (x:=x-70000) (y:=5) (S:=S);have c3:af D wf (n+7) 9 [.tup [.int x,.int 5,.int 65535]] S=.ok (TI (cX [x,5,65535])) S:=MH (n:=n+5) (xs:=[x,5,65535]) (by show 3<aj;omega);have c4:af D wf (n+7) 10 [.tup [.int x,.int (-1),.int 70000]] S=.ok (TI ([x,-1,70000].map (·%65536))) S:=MD (n:=n+6) (xs:=[x,-1,70000]) (by show 3<=aj;omega);have c5:=MC (wf:=wf) (n:=n+4) (S:=S) (K5 (n:=x) hx.1 hx.2 (show r.length<=16 by omega) hrs);have c6:af D wf (n+7) 19 [P] S=.ok (TI (bu q (r::rs))) S:=by rw[hP];exact B6 (n:=n+5) (by simp) h.sz (by omega) (by rw[List.length_cons];omega)
 have s1:hW S P (.int 1) .non=.ok (.tup (TR rs)) S:=by
  rw[hP,Bb,Bc (by decide)];rfl
 have c7:af D wf (n+7) 20 [.tup (TR rs),TI (bu q (r::rs))] S=.ok (TI (jb q rs (bu q (r::rs)))) S:=B7 (n:=n+5) ⟨rfl,rfl⟩ hsr Bx (by omega) (by omega);have rv:l_ S P=.ok (.tup (TR (r::rs).reverse)) S:=by
  rw[hP];show ac.ok (PV.tup (TR (r::rs)).reverse) S=_;unfold TR;rw[List.map_reverse]
 obtain⟨V,hV⟩:∃V,V=PV.tup (TR (r::rs).reverse):=⟨_,rfl⟩
 have s2:hW S V (.int 1) .non=.ok (.tup (TR ((r::rs).reverse.drop 1))) S:=by
  rw[hV,Bb,Bc (by decide)];unfold TR;rw[List.map_drop];rfl
 have cat:∀l:List PV,l.length<=10->aN S .add (.tup [.non]) (.tup l)=.ok (.tup (.non::l)) S:=fun l hl=>pq (by show 1+_<=aj;omega);have cat1:=cat (TR ((r::rs).reverse.drop 1)) (by unfold TR;rw[aw,mY,iH,List.length_cons];omega);have smP:∀l:List (List Int),fZ q l->l≠[]->l.length<=10->af D wf (n+7) 19 [.tup (TR l)] S=.ok (.tup ((bu q l).map PV.int)) S:=fun l hl hn hle=>B6 (n:=n+5) hn hl (by omega) (by omega);have ca:bW (ae (af D wf (n+7)) (.call 19 [.loc 0])) (.one 0) none [P,V] [none] S=.ok [.tup ((bu q (r::rs)).map PV.int),.tup ((bu q (r::rs).reverse).map PV.int)] S:=by
  have:=dF (f:=ae (af D wf (n+7)) (.call 19 [.loc 0])) (tg:=.one 0) (S:=S) (fun l=>PV.tup (TR l)) (fun l=>.tup ((bu q l).map PV.int)) (fun ro=>∃a,ro=[a]) [r::rs,(r::rs).reverse] (fun l hl ro ⟨a,hro⟩=>by
   subst hro;refine⟨[some (.tup (TR l))],rfl,?_,_,rfl⟩;have:l=r::rs\/l=(r::rs).reverse:=by simpa using hl
   have e:af D wf (n+7) 19 [.tup (TR l)] S=.ok (.tup ((bu q l).map PV.int)) S:=by
    rcases this with rfl|rfl
    ·exact smP _ h.sz (by simp) (by rw[List.length_cons];omega)
    ·exact smP _ (wA h) (by simp) (by rw[iH,List.length_cons];omega)
   simp_arith[e]) [none] ⟨_,rfl⟩
  rw[hP,hV];exact this
 have zp:∀l m:List (List Int),e_ (TR l) (TR m)=(l.zip m).map fun p=>.tup [.tup (p.1.map PV.int),.tup (p.2.map PV.int)]:=fun l=>by
  induction l with
  |nil=>intro m;rfl
  |cons a l ih=>intro m;cases m with|nil=>rfl|cons b m=>exact congrArg (_::·) (ih m)
 have cb:bW (ae (af D wf (n+7)) (.call 19 [.tup [.loc 0,.loc 1]])) (.many [0,1]) none (((r::rs).zip (r::rs).reverse).map fun p=>.tup [.tup (p.1.map PV.int),.tup (p.2.map PV.int)]) [none,none] S=.ok (((r::rs).zip (r::rs).reverse).map fun p=>.tup ((bu q [p.1,p.2]).map PV.int)) S:=
  dF (fun p:List Int×List Int=>PV.tup [.tup (p.1.map PV.int),.tup (p.2.map PV.int)]) (fun p=>.tup ((bu q [p.1,p.2]).map PV.int)) (fun ro=>∃a b,ro=[a,b]) _ (fun p hp ro ⟨a,b,hro⟩=>by
   subst hro;refine⟨[some (.tup (p.1.map PV.int)),some (.tup (p.2.map PV.int))],rfl,?_,_,_,rfl⟩;have e:af D wf (n+7) 19 [.tup [.tup (p.1.map PV.int),.tup (p.2.map PV.int)]] S=.ok (.tup ((bu q [p.1,p.2]).map PV.int)) S:=smP [p.1,p.2] (fun z hz=>by
    rcases aP.mp hz with rfl|hz
    ·exact h.sz _ (rR hp).1
    ·cases sr.mp hz;exact wA h _ (rR hp).2) (by simp) (by show 2<=10;decide)
   simp_arith[e,ag (show(2:Nat)<=aj by decide),List.length_cons,List.length_nil]) [none,none] ⟨_,_,rfl⟩
 have ita:a8 S .seq [.tup [P,V]]=some ⟨[P,V],none⟩:=rfl;have itb:a8 S .zip [P,V]=some ⟨((r::rs).zip (r::rs).reverse).map fun p=>.tup [.tup (p.1.map PV.int),.tup (p.2.map PV.int)],none⟩:=by
  rw[hP,hV,←zp];rfl
 have i4:aU S (.tup [P,V]) (.int 0)=.ok P S:=bA rfl;have i5:aU S (.tup [P,V]) (.int 1)=.ok V S:=bA rfl;have lz:(((r::rs).zip (r::rs).reverse).map fun p=>PV.tup ((bu q [p.1,p.2]).map PV.int)).length<=aj:=by
  rw[aw,xk,iH,List.length_cons];omega
 obtain⟨Z,hZ⟩:∃Z,Z=((r::rs).zip (r::rs).reverse).map fun p=>PV.tup ((bu q [p.1,p.2]).map PV.int):=⟨_,rfl⟩
 have j0:∀a b:PV,aU S (.tup [a,b]) (.int 0)=.ok a S:=fun a b=>bA rfl;have j1:∀a b:PV,aU S (.tup [a,b]) (.int 1)=.ok b S:=fun a b=>bA rfl;have hh:af D wf (n+7) 25 [.tup [P,.tup (.non::TR ((r::rs).reverse.drop 1))],.tup [.tup ((bu q (r::rs)).map PV.int),.tup ((bu q (r::rs).reverse).map PV.int)],.tup Z] S=.ok (FP 2 (r::rs).length (gr (r::rs)) (bS 2 (r::rs).length M0)) S:=by
  rw[hP,hZ,NW h,NY h,NZ h];exact N3 h hwf
 have tp:∀l:List PV,aC S .tuple [.lst l]=.ok (.tup l) S:=fun l=>rfl;have add7:∀a b c d e f g:PV,aN S .add (.tup [a,b,c,d,e]) (.tup [f,g])=.ok (.tup [a,b,c,d,e,f,g]) S:=fun a b c d e f g=>pq (by show 5+2<=aj;omega);have add8:∀a b c d e f g k:PV,aN S .add (.tup [a,b,c,d,e,f,g]) (.tup [k])=.ok (.tup [a,b,c,d,e,f,g,k]) S:=fun a b c d e f g k=>pq (by show 7+1<=aj;omega);rw[←hV]at rv;rw[←hZ]at cb lz;rw[←hP];rw[tJ]
 simp_arith[i0,c1,c2,c3,c4,c5,ag (show(5:Nat)<=aj by decide),ag (show(3:Nat)<=aj by decide),ag (show(2:Nat)<=aj by decide),ag (show(1:Nat)<=aj by decide),List.length_cons,List.length_nil,c6,s1,c7,add7,rv,ita,bt,List.replicate_succ,List.replicate_zero,ez,lJ,ca,tp,i4,i5,itb,cb,lz,aL,s2,cat1,j0,j1,hh,add8];rfl
structure wC(ws:List (Int×Int)):Prop where
 lo:2<=ws.length
 hi:ws.length<=7
 dis:¬fC (ws.map (·.1))<2
 sm:∀w∈ws,(0<=w.1/\w.1<=10)/\0<=w.2/\w.2<=30
theorem N5{wf:Nat}{ws:List (Int×Int)}(h:wC ws)(hwf:70<=wf):∃l:List PV,a_ l 58=true/\∀(n:Nat)(S:aa),af D wf (n+6) 53 [.tup (PR ws)] S=.ok (.tup l) S:=by
 have hL:aj=16777216:=rfl;have lo:=h.lo;have hi:=h.hi;have hsm:∀w∈ws,sm w:=fun w hw=>by have:=h.sm w hw;unfold sm;omega
 obtain⟨a,b,E⟩:=NG h.dis (by omega) hsm;have hrun:∀p∈ws,∀q∈ws,q.1-p.1<wf:=fun p hp q hq=>by have:=h.sm p hp;have:=h.sm q hq;omega
 have hab:b.1-a.1<=30000:=by have:=h.sm a E.ha;have:=h.sm b E.hb;omega
 refine⟨[.int (fH (bV ws) 3),.int (q_ (bV ws) 1),.int (vK (bV ws)),.int (mV [ws,ws.take 2] 2 1 6).1,gM (cx a b) (bP a b),TI (ws.map (gN (cx a b) (bP a b)))],?_,fun n S=>?_⟩
 ·show(a_ ((ws.map (gN (cx a b) (bP a b))).map PV.int) 57&&true)=true;rw[iq];rfl
 refine(aO (d:=yH.d) (S1:=S) rfl rfl ?_).trans (ba (pN _ 58 ?_))
 ·show ar (af D wf (n+5)) wf tK [some (.tup (PR ws)),none] S=_;have c1:=CD (wf:=wf) (n:=n+3) (ws:=ws) (w:=3) (S:=S) (by omega);have c2:af D wf (n+5) 42 [.tup (PR ws),.int 1] S=.ok (.int (q_ (bV ws) 1)) S:=by
   have:=NL (wf:=wf) (n:=n+3) (m:=1) (ws:=ws) (S:=S) (by omega);rw[ag (by omega)]at this;exact this
  have c3:=NM (wf:=wf) (n:=n+3) (ws:=ws) (S:=S) (by omega);have tk:(PR ws).take 2=PR (ws.take 2):=by unfold PR;rw[List.map_take]
  have c4:af D wf (n+5) 46 [.tup [.tup (PR ws),.tup ((PR ws).take 2)],.int 2,.int 1,.int 6] S=.ok (a9 (mV [ws,ws.take 2] 2 1 6)) S:=by
   rw[tk];exact NU (n:=n+2) (ts:=[ws,ws.take 2]) (by decide) (by decide) (by decide) (fun r hr=>by
    rcases aP.mp hr with rfl|hr
    ·omega
    ·cases sr.mp hr;rw[kg];omega) (by show 2<=1000;decide)
  have i0:aU S (a9 (mV [ws,ws.take 2] 2 1 6)) (.int 0)=.ok (.int (mV [ws,ws.take 2] 2 1 6).1) S:=bA rfl;have c5:=CC (wf:=wf) (n:=n+1) (S:=S) E (by omega) hwf hrun hsm;have c6:=NK (wf:=wf) (n:=n) (S:=S) E (by omega) hwf hrun hsm hab;have add6:∀a b c d e f:PV,aN S .add (.tup [a,b,c,d]) (.tup [e,f])=.ok (.tup [a,b,c,d,e,f]) S:=fun a b c d e f=>pq (by show 4+2<=aj;omega)
  simp_arith[tK,c1,c2,c3,ag (show(2:Nat)<=aj by decide),ag (show(4:Nat)<=aj by decide),List.length_cons,List.length_nil,c4,i0,c5,c6,add6];rfl
 ·show(a_ ((ws.map (gN (cx a b) (bP a b))).map PV.int) 57&&true)=true;rw[iq];rfl
noncomputable def Sh(b:Nat)(x:PV):Prop:=(aS x).showable=true/\(aS x).shown.length<=b/\PyData.strOk (aS x).shown=true
theorem wD{x:Str}:PyData.strOk x=true↔∀k∈x.cps.toList,k<0x110000:=by
 unfold PyData.strOk;rw[Array.all_eq_true_iff_forall_mem];simp only[gT,Array.mem_toList_iff]
theorem wE{i:Int}(h:-4000<i/\i<4000):Sh 13 (.int i):=by
 have hn:i.natAbs.log2<12:=by
  by_cases h0:i.natAbs=0
  ·rw[h0];decide
  ·exact(Nat.log2_lt h0).mpr (by show i.natAbs<4096;omega)
 refine⟨?_,?_,?_⟩
 ·show decide (i.natAbs.log2<1920)=true;exact gP (by omega)
 ·have:=int_text_length_le (a:=i) (k:=12) (by decide) hn;show(Str.ofString (toString i)).length<=13;rw[ofString_length];exact this
 ·refine wD.mpr fun k hk=>On fun z=>?_;exact PyProof.Rows.shown_int_free' (k:=k) ⟨by omega,.inr (by omega)⟩ i hk
theorem pQ{b:Nat}{xs:List PV}(h:∀x∈xs,Sh b x):Sh (b*xs.length+2*xs.length+3) (.tup xs):=by
 have hl:∀xs:List PV,(PyData.shownAll (bD xs)).length=xs.length:=fun xs=>by
  induction xs with
  |nil=>rfl
  |cons x xs ih=>exact congrArg (·+1) ih
 have key:PyData.showableAll (bD xs)=true/\((PyData.shownAll (bD xs)).map (·.length)).sum<=b*xs.length/\∀t∈PyData.shownAll (bD xs),PyData.strOk t=true:=by
  induction xs with
  |nil=>exact⟨rfl,jl _,fun t ht=>nomatch ht⟩
  |cons x xs ih=>
   obtain⟨a1,a2,a3⟩:=h x bK;obtain⟨b1,b2,b3⟩:=ih fun y hy=>h y (bq _ hy);refine⟨?_,?_,fun t ht=>?_⟩
   ·show((aS x).showable&&PyData.showableAll (bD xs))=true;rw[a1,b1];rfl
   ·show(aS x).shown.length+((PyData.shownAll (bD xs)).map (·.length)).sum<=b*(xs.length+1);rw[Nat.mul_succ];omega
   ·rcases aP.mp (show t∈(aS x).shown::PyData.shownAll (bD xs) from ht)with rfl|z
    ·exact a3
    ·exact b3 t z
 refine⟨key.1,?_,?_⟩
 ·have:=tupleText_len_le (PyData.shownAll (bD xs));rw[hl]at this;show(tupleText (PyData.shownAll (bD xs))).length<=_;have:=key.2.1;omega
 ·refine wD.mpr fun k hk=>?_;have hk':k∈((("(":String):Str)++Str.join ", " (PyData.shownAll (bD xs))++((if (PyData.shownAll (bD xs)).length==1 then ",)" else ")":String):Str)).cps.toList:=hk
  rw[Ot,Ot,PyProof.Rows.signs_lparen,PyProof.Rows.mem_join,PyProof.Rows.signs_tuple_end,PyProof.Rows.signs_sep]at hk';rcases hk' with (z|⟨t,ht,hc⟩|⟨_,z⟩)|z
  ·simp at z;omega
  ·exact wD.mp (key.2.2 t ht) k hc
  ·simp at z;omega
  ·split at z<;>simp at z<;>omega
theorem wF{b c:Nat}{x:PV}(h:Sh b x)(hb:b<=c):Sh c x:=⟨h.1,eP h.2.1 hb,h.2.2⟩
noncomputable def dN(rs:List (List Int))(ws:List (Int×Int)):PV:=.tup [.tup (TR rs),.tup (PR ws)]
theorem N6{q:Nat}{rs:List (List Int)}{ws:List (Int×Int)}(h:pO q rs)(r:wC ws):∃w,PyData.strOk w=true/\∀S,aC S .repr [dN rs ws]=.ok (.str w) S:=by
 have hL:aj=16777216:=rfl;have hi:=h.hi;have hq:=h.q1;have ri:=r.hi;have i1:∀x∈TR rs,Sh 78 x:=fun x hx=>by
  obtain⟨y,hy,rfl⟩:=bc.mp hx;obtain⟨y1,y2⟩:=h.sz y hy;refine wF (pQ (b:=13) fun z hz=>?_) (by rw[aw,y1];omega);obtain⟨i,hi,rfl⟩:=bc.mp hz;exact wE (by have:=y2 i hi;omega)
 have i2:∀x∈PR ws,Sh 33 x:=fun x hx=>by
  obtain⟨y,hy,rfl⟩:=bc.mp hx;have:=r.sm y hy;refine pQ (b:=13) (xs:=[.int y.1,.int y.2]) fun z hz=>?_;rcases aP.mp hz with rfl|hz
  ·exact wE (by omega)
  ·cases sr.mp hz;exact wE (by omega)
 have j1:Sh 400 (.tup (TR rs)):=wF (pQ i1) (by unfold TR;rw[aw];omega);have j2:Sh 400 (.tup (PR ws)):=wF (pQ i2) (by unfold PR;rw[aw];omega);have k:Sh 807 (dN rs ws):=pQ (b:=400) (xs:=[.tup (TR rs),.tup (PR ws)]) fun z hz=>by
  rcases aP.mp hz with rfl|hz
  ·exact j1
  ·cases sr.mp hz;exact j2
 have o:aM (dN rs ws) 50=true:=by
  have o1:a_ (TR rs) 48=true:=pJ fun x hx=>by obtain⟨y,_,rfl⟩:=bc.mp hx;exact iq 47 y
  have o2:a_ (PR ws) 48=true:=pJ fun x hx=>by obtain⟨y,_,rfl⟩:=bc.mp hx;rfl
  show(a_ (TR rs) 48&&(a_ (PR ws) 48&&true))=true;rw[o1,o2];rfl
 refine⟨(aS (dN rs ws)).shown,k.2.2,fun S=>?_⟩;exact ag ⟨o,k.1,eP k.2.1 (by omega)⟩
theorem CU{q:Nat}:∀(ps:List PV),(∀p∈ps,∃ss:List Int,p=.tup (ss.map PV.int)/\ss.length=q/\gE ss)->∃rs,ps=TR rs/\fZ q rs/\rs.length=ps.length
 |[],_=>⟨[],rfl,(fun _ h=>nomatch h),rfl⟩
 |p::ps,h=>by
  obtain⟨ss,rfl,h1,h2⟩:=h p bK;obtain⟨rs,rfl,h3,h4⟩:=CU ps fun x hx=>h x (bq _ hx);refine⟨ss::rs,rfl,fun r hr=>?_,congrArg (·+1) h4⟩;rcases aP.mp hr with rfl|z
  ·exact⟨h1,h2⟩
  ·exact h3 r z
theorem N7{wf n:Nat}{ns:List Int}{k q c:Nat}{S:aa}(h:Tn S k)(hq:q<=5)(hc:c<=4)(hk:k+100<aj):∃(rs:List (List Int))(l:Nat),fZ q rs/\rs.length=c/\l<=k+20/\bW (ae (af D wf (n+2)) (.call 49 [.loc 1,.loc 3,.loc 2])) (.one 0) none (bI 0 c) [none,some (.lst (ns.map PV.int)),some (.int (q:Int)),some (.ref 0)] S=.ok (TR rs) (tn S l):=by
 have hm:5*c<=20:=by omega
 obtain⟨ps,l,h1,h2,h3,h4⟩:=vF (f:=ae (af D wf (n+2)) (.call 49 [.loc 1,.loc 3,.loc 2])) (tg:=.one 0) (rest:=S.tail) (c:=5) (fun p=>∃ss:List Int,p=.tup (ss.map PV.int)/\ss.length=q/\gE ss) (fun ro=>∃a,ro=[a,some (.lst (ns.map PV.int)),some (.int (q:Int)),some (.ref 0)]) (bI 0 c) k (by rw[ja];omega) (fun x hx ro j hj ⟨a,hro⟩=>by
  subst hro;have t:Tn (.lst (zs j)::S.tail) j:=rfl;obtain⟨ss,l,e1,e2,e3,e4⟩:=BW (wf:=wf) (n:=n) (ns:=ns) (m:=q) t (by omega) (by omega);rw[lG t]at e4;refine⟨[some x,some (.lst (ns.map PV.int)),some (.int (q:Int)),some (.ref 0)],TI ss,l,rfl,?_,⟨ss,rfl,e1,e2⟩,by omega,_,rfl⟩
  simp_arith[e4];rfl) [none,some (.lst (ns.map PV.int)),some (.int (q:Int)),some (.ref 0)] ⟨_,rfl⟩
 obtain⟨rs,rfl,r1,r2⟩:=CU ps h3;rw[ja]at h2 h4;refine⟨rs,l,r1,r2.trans h2,by omega,?_⟩;rw[lG h]
 conv=>lhs;rw[pH h]
 exact h1
theorem CV{wf n:Nat}{ns:List Int}{rest:aa}:∀(is:List Int)(k:Nat)(v:Option PV),k+is.length<aj ->
  ∃ws:List (Int×Int),ws.map (·.1)=is/\(∀w∈ws,0<=w.2-w.1/\w.2-w.1<=8)/\bW (ae (af D wf (n+1)) (.tup [.loc 0,.bin .add (.loc 0) (.call 47 [.loc 1,.loc 2,.cst (.int 9)])])) (.one 0) none (is.map PV.int) [v,some (.lst (ns.map PV.int)),some (.ref 0)] (.lst (zs k)::rest)=.ok (PR ws) (.lst (zs (k+is.length))::rest)
 |[],k,v,_=>⟨[],rfl,(fun _ h=>nomatch h),by simp only[ez,bW];rw[ag (bL _)];rfl⟩
 |i::is,k,v,hk=>by
  rw[List.length_cons]at hk;obtain⟨d,hd,c1⟩:=rB (wf:=wf) (n:=n) (ns:=ns) (m:=9) (k:=k) (rest:=rest) (by decide) (by omega);obtain⟨ws,w1,w2,w3⟩:=CV (wf:=wf) (n:=n) (ns:=ns) (rest:=rest) is (k+1) (some (.int i)) (by omega);refine⟨(i,i+d)::ws,by rw[aZ,w1],fun w hw=>?_,?_⟩
  ·rcases aP.mp hw with rfl|z
   ·show 0<=i+d-i/\i+d-i<=8;omega
   ·exact w2 w z
  ·rw[aZ,bW,ag (bL _)];have t:bx (.one 0) (.int i) [v,some (.lst (ns.map PV.int)),some (.ref 0)]=some [some (.int i),some (.lst (ns.map PV.int)),some (.ref 0)]:=rfl;have e:ae (af D wf (n+1)) (.tup [.loc 0,.bin .add (.loc 0) (.call 47 [.loc 1,.loc 2,.cst (.int 9)])]) [some (.int i),some (.lst (ns.map PV.int)),some (.ref 0)] (.lst (zs k)::rest)=.ok (aV (i,i+d)) (.lst (zs (k+1))::rest):=by
    simp_arith[c1,List.length_cons,List.length_nil,ag (show(2:Nat)<=aj by decide)];rfl
   rw[t];dsimp only;rw[e,ac.bind_ok,w3,ac.bind_ok,List.length_cons,show k+1+is.length=k+(is.length+1) by omega];rfl
theorem N8{wf n:Nat}{ns:List Int}{k c:Nat}{S:aa}(h:Tn S k)(h2:2<=c)(hc:c<=7)(hk:k+100<aj):∃ws,wC ws/\bW (ae (af D wf (n+1)) (.tup [.loc 0,.bin .add (.loc 0) (.call 47 [.loc 1,.loc 2,.cst (.int 9)])])) (.one 0) none (bI 0 c) [none,some (.lst (ns.map PV.int)),some (.ref 0)] S=.ok (PR ws) (tn S (k+c)):=by
 obtain⟨is,his⟩:∃is:List Int,is=(List.range c).map fun(i:Nat)=>0+(i:Int):=⟨_,rfl⟩
 have hl:is.length=c:=by rw[his,aw,du]
 have e:bI 0 c=is.map PV.int:=by rw[his,lx,cK];rfl
 obtain⟨ws,w1,w2,w3⟩:=CV (wf:=wf) (n:=n) (ns:=ns) (rest:=S.tail) is k none (by omega);have wl:ws.length=c:=by rw[←hl,←w1,aw]
 have hm:∀j:Nat,j<c->(0+(j:Int))∈ws.map (·.1):=fun j hj=>by rw[w1,his];exact bc.mpr ⟨j,gh.mpr hj,rfl⟩
 refine⟨ws,⟨by omega,by omega,CB (hm 0 (by omega)) (hm 1 (by omega)) (by decide),fun w hw=>?_⟩,?_⟩
 ·have h1:w.1∈is:=by rw[←w1];exact bc.mpr ⟨w,hw,rfl⟩
  rw[his]at h1;obtain⟨j,hj,ej⟩:=bc.mp h1;have:=gh.mp hj;have:=w2 w hw;omega
 ·rw[lG h,e]
  conv=>lhs;rw[pH h]
  rw[w3,hl]
structure U3(S:aa)(k n m o:Nat)(p q r:PL):Prop where
 t2:T2 S k n m p q
 idle:At S o (o+1) (o+2) r
 h2:m+2<o
section
variable{S:aa}{k n m o:Nat}{p q r:PL}(h:U3 S k n m o p q r)
include h
theorem wG(l:Nat):U3 (tn S l) l n m o p q r:=by
 have h2:=h.h2;exact⟨Mn h.t2 l,h.idle.tn (by omega),h2⟩
theorem N9(p':PL):U3 (au S n (n+1) (n+2) p') k n m o p' q r:=by
 have h2:=h.h2;have h1:=h.t2.h1;exact⟨Mp h.t2 p',h.idle.other (by omega) (by omega) (by omega),h2⟩
theorem N_(q':PL):U3 (au S m (m+1) (m+2) q') k n m o p q' r:=by
 have h2:=h.h2;exact⟨Mq h.t2 q',h.idle.other (by omega) (by omega) (by omega),h2⟩
end
theorem Oa{S:aa}{d:DD}{p:PL}:aK S .ne (d.word p) (d.word p)=.ok (.bl false) S:=by
 cases d with
 |take x=>exact wa
 |put x ss=>
  show aK S .ne (.str _) (.str _)=_;rw[BJ,gP rfl];rfl
theorem Ob{wf nn n c:Nat}{p:PL}{S:aa}{v0 v1 v2 v3 v4 v5 v6 v7 v8 v10 v11 v12 v13 v14 v15:Option PV}(h:At S n (n+1) (n+2) p)(hk:p.kept.length<60) :
  ∃w15,ce (ar (af D wf (nn+1)) wf ny) (.one 15) none (bI 0 c) [v0,v1,v2,v3,v4,v5,v6,v7,v8,some (.ref n),v10,v11,v12,v13,v14,v15] S=.ok (.next [v0,v1,v2,v3,v4,v5,v6,v7,v8,some (.ref n),v10,v11,v12,v13,v14,w15]) S:=by
 obtain⟨ro',S',g1,rfl,w15,rfl⟩:=i9 (f:=ar (af D wf (nn+1)) wf ny) (tg:=.one 15) (ck:=none)
  (fun i ro T=>T=S/\∃w15:Option PV,ro=[v0,v1,v2,v3,v4,v5,v6,v7,v8,some (.ref n),v10,v11,v12,v13,v14,w15])
  (bI 0 c) 0 (fun i x ro T hi ⟨hT,w15,hro⟩=>by
   subst hro;subst hT;have w1:=rq (wf:=wf) (k:=nn) h (by omega);have q1:=rz (wf:=wf) (k:=nn) h;have mw:bJ T am kG (.ref n)=.ok (.ref n) T:=fL h rfl;have ms:bJ T am kH (.ref n)=.ok (.ref n) T:=fL h rfl;obtain⟨A,hA⟩:∃A,A=TI (dk (p.kept.map (·.1))):=⟨_,rfl⟩
   obtain⟨B,hB⟩:∃B,B=TI (lF.map p.tally):=⟨_,rfl⟩
   rw[←hA]at w1;rw[←hB]at q1;have o:aM (.tup [A,B]) 60=true:=by
    show(aM A 59&&(aM B 59&&true))=true;rw[hA,hB,wB _ 58,wB _ 58];rfl
   have ex:ar (af D wf (nn+1)) wf ny [v0,v1,v2,v3,v4,v5,v6,v7,v8,some (.ref n),v10,v11,v12,v13,v14,some x] T=.ok (.next [v0,v1,v2,v3,v4,v5,v6,v7,v8,some (.ref n),v10,v11,v12,v13,v14,some x]) T:=by
    simp_arith[ny,mw,w1,ms,q1,ag (show(2:Nat)<=aj by decide),List.length_cons,List.length_nil,wz o]
   exact⟨bL _,_,_,_,rfl,ex,_,.inl rfl,rfl,_,rfl⟩) (fun _ _ _=>bL _)
  [v0,v1,v2,v3,v4,v5,v6,v7,v8,some (.ref n),v10,v11,v12,v13,v14,v15] S ⟨rfl,_,rfl⟩
 exact⟨w15,g1⟩
theorem Oc{wf nn:Nat}{ns:List Int}{S:aa}{k n m o sz:Nat}{p r:PL}{here:Int}{v2 v4 v5 v6 v7 v8 v11 v13 v14 v15:Option PV}(h:U3 S k n m o p p r)(hk:k+100<aj)(h9:sz<=5)(ok:cw p)(hs:p.size=sz)(hkl:p.kept.length<50) :
  ∃S' k' p' here' w14 w15,ar (af D wf (nn+5)) wf ql [some (.lst (ns.map PV.int)),some (.ref 0),v2,some (.int (sz:Int)),v4,v5,v6,v7,v8,some (.ref n),some (.ref m),v11,some (.int here),v13,v14,v15] S=.ok (.next [some (.lst (ns.map PV.int)),some (.ref 0),v2,some (.int (sz:Int)),v4,v5,v6,v7,v8,some (.ref n),some (.ref m),v11,some (.int here'),v13,w14,w15]) S'/\U3 S' k' n m o p' p' r/\k'<=k+20/\cw p'/\p'.size=sz/\p'.kept.length<=p.kept.length+1:=by
 have hL:aj=16777216:=rfl;obtain⟨d,l,d1,d2,d3,c1⟩:=Mw (wf:=wf) (n:=nn+2) (ns:=ns) (sz:=sz) (here:=here) h.t2.tw (by omega) (by omega);have h1:=wG h l;obtain⟨c,hc,c0⟩:=rC (wf:=wf) (n:=nn+4) (ns:=ns) (m:=3) h1.t2.tw (by decide) (by omega);have h2:=wG h1 (l+1);obtain⟨S2,hS2⟩:∃S2,S2=tn (tn S l) (l+1):=⟨_,rfl⟩
 rw[←hS2]at h2 c0;obtain⟨w15,lk⟩:=Ob (wf:=wf) (nn:=nn+4) (c:=c.toNat) (v0:=some (.lst (ns.map PV.int))) (v1:=some (.ref 0)) (v2:=v2) (v3:=some (.int (sz:Int))) (v4:=v4) (v5:=v5) (v6:=v6) (v7:=v7) (v8:=v8) (v10:=some (.ref m)) (v11:=v11) (v12:=some (.int here)) (v13:=v13) (v14:=some d.v) (v15:=v15) h2.t2.one (by omega);have ic:a8 S2 .range [.int c]=some ⟨bI 0 c.toNat,none⟩:=eJ (by omega);obtain⟨okd1,okd2,okd3⟩:=Mt d1 ok hs;have t3:=N9 h2 (d.step p);have t4:=N_ t3 (d.step p);have c2:=BX (wf:=wf) (k:=nn+1) h2.t2.one ok d1 hs (by omega);have c3:=BX (wf:=wf) (k:=nn+1) t3.t2.two ok d1 hs (by omega);obtain⟨p',hp'⟩:∃p',p'=d.step p:=⟨_,rfl⟩
 obtain⟨wd,hwd⟩:∃wd,wd=d.word p:=⟨_,rfl⟩
 have n1:∀T,aK T .ne wd wd=.ok (.bl false) T:=fun T=>by rw[hwd];exact Oa
 rw[←hwd]at c2 c3;rw[←hp']at okd1 okd2 okd3 c2 c3 t3 t4;obtain⟨S3,hS3⟩:∃S3,S3=au (au S2 n (n+1) (n+2) p') m (m+1) (m+2) p':=⟨_,rfl⟩
 rw[←hS3]at t4 c3;obtain⟨v,hv,c4⟩:=rC (wf:=wf) (n:=nn+4) (ns:=ns) (m:=2) t4.t2.tw (by decide) (by omega);refine⟨tn S3 (l+1+1),l+1+1,p',here+v,some d.v,w15,?_,wG t4 _,by omega,okd1,okd2,okd3⟩
 simp_arith[ql,c1,c0,ic,lk,c2,c3,n1,c4]
theorem rN{wf n:Nat}{ns:List Int}{m:Int}{k:Nat}{S:aa}(h:Tn S k)(hm:0<m)(hk:k<aj):∃(v:Int)(S':aa),(0<=v/\v<m)/\Tn S' (k+1)/\af D wf (n+1) 47 [.lst (ns.map PV.int),.ref 0,.int m] S=.ok (.int v) S':=by
 obtain⟨v,hv,hc⟩:=rC (wf:=wf) (n:=n) (ns:=ns) (m:=m) h hm hk;exact⟨v,_,hv,mQ h,hc⟩
theorem Od{S:aa}{k:Nat}{s f m:Int}(h:Tn S k):U3 (d_ (d_ (d_ S s f m) s f m) s f m) k S.length (S.length+3) (S.length+6) (dg s f m) (dg s f m) (dg s f m):=by
 have t:=Mr (s1:=s) (f1:=f) (m1:=m) (s2:=s) (f2:=f) (m2:=m) h;refine⟨⟨vZ t.tw,t.one.app,t.two.app,t.h0,t.h1⟩,?_,by omega⟩;have:=vY (S:=d_ (d_ S s f m) s f m) (size:=s) (first:=f) (most:=m)
 rw[pI,pI]at this;exact this
theorem Oe{wf nn:Nat}{ns:List Int}{S:aa}{k:Nat}{v2 v3 v4 v5 v6 v7 v8 v9 v10 v11 v12 v13 v14 v15:Option PV}(h:Tn S k)(hk:k+1000<aj)(hwf:70<=wf) :
  ∃(S':aa)(k' sz:Nat)(x:Int)(P R B Z:PV),ar (af D wf (nn+8)) wf (gu.take 4) [some (.lst (ns.map PV.int)),some (.ref 0),v2,v3,v4,v5,v6,v7,v8,v9,v10,v11,v12,v13,v14,v15] S=.ok (.next [some (.lst (ns.map PV.int)),some (.ref 0),v2,some (.int (sz:Int)),some (.int x),some P,some R,some B,some Z,v9,v10,v11,v12,v13,v14,v15]) S'/\Tn S' k'/\k'<=k+100/\sz<=5/\aM B 60=true/\aM Z 60=true /\
   (∀T,aC T .repr [.tup [P,R]]=.ok B T)/\∃A C,Z=.tup [A,C]/\(∀T,af D wf (nn+8) 52 [.int x,P] T=.ok A T)/\∀T,af D wf (nn+8) 53 [R] T=.ok C T:=by
 have hL:aj=16777216:=rfl;obtain⟨a,S1,ha,y1,c1⟩:=rN (wf:=wf) (n:=nn+7) (ns:=ns) (m:=5) h (by decide) (by omega);obtain⟨x,S2,hx,t2,c2⟩:=rN (wf:=wf) (n:=nn+7) (ns:=ns) (m:=65536) y1 (by decide) (by omega);obtain⟨b,S3,hb,t3,c3⟩:=rN (wf:=wf) (n:=nn+7) (ns:=ns) (m:=3) t2 (by decide) (by omega);obtain⟨sz,hsz,hs5⟩:∃sz:Nat,1+a=(sz:Int)/\sz<=5:=⟨(1+a).toNat,by omega,by omega⟩
 obtain⟨rs,l,r1,r2,r3,c4⟩:=N7 (wf:=wf) (n:=nn+6) (ns:=ns) (q:=sz) (c:=(2+b).toNat) t3 hs5 (by omega) (by omega);have t4:Tn (tn S3 l) l:=mQ t3;obtain⟨S4,hS4⟩:∃S4,S4=tn S3 l:=⟨_,rfl⟩
 rw[←hS4]at t4 c4;obtain⟨e,S5,he,t5,c5⟩:=rN (wf:=wf) (n:=nn+7) (ns:=ns) (m:=6) t4 (by decide) (by omega);obtain⟨ws,w1,c6⟩:=N8 (wf:=wf) (n:=nn+7) (ns:=ns) (c:=(2+e).toNat) t5 (by omega) (by omega) (by omega);have t6:Tn (tn S5 (l+1+(2+e).toNat)) (l+1+(2+e).toNat):=mQ t5;obtain⟨S6,hS6⟩:∃S6,S6=tn S5 (l+1+(2+e).toNat):=⟨_,rfl⟩
 rw[←hS6]at t6 c6;have pc:pO sz rs:=⟨hs5,by omega,by omega,r1⟩
 obtain⟨B,hB,cB⟩:=N6 pc w1;obtain⟨l2,o2,cS⟩:=N5 w1 hwf;obtain⟨r,rs',rfl⟩:∃r rs',rs=r::rs':=by
  cases rs with
  |nil=>have:=pc.lo;exact absurd this (by decide)
  |cons r rs'=>exact⟨r,rs',rfl⟩
 have cF:=fun T=>N4 (wf:=wf) (n:=nn) (x:=x) (S:=T) pc hx (by omega);have cS':=fun T=>cS (nn+2) T;have o1:=CS (x:=x) (q:=sz) (r:=r) (rs:=rs');obtain⟨P,hP⟩:∃P,P=PV.tup (TR (r::rs')):=⟨_,rfl⟩
 obtain⟨R,hR⟩:∃R,R=PV.tup (PR ws):=⟨_,rfl⟩
 obtain⟨A,hA⟩:∃A,A=PV.tup (t1 x sz r rs'):=⟨_,rfl⟩
 have cB':∀T,aC T .repr [.tup [P,R]]=.ok (.str B) T:=by rw[hP,hR];exact cB
 rw[←hP,←hA]at cF;rw[←hR]at cS';refine⟨S6,_,sz,x,P,R,.str B,.tup [A,.tup l2],?_,t6,by omega,hs5,hB,?_,cB',A,_,rfl,cF,cS'⟩
 ·have i1:a8 S3 .range [.int (2+b)]=some ⟨bI 0 (2+b).toNat,none⟩:=eJ (by omega);have i2:a8 S5 .range [.int (2+e)]=some ⟨bI 0 (2+e).toNat,none⟩:=eJ (by omega);have tp:aC S4 .tuple [.lst (TR (r::rs'))]=.ok P S4:=by rw[hP];rfl
  have tq:aC S6 .tuple [.lst (PR ws)]=.ok R S6:=by rw[hR];rfl
  have lp:(TR (r::rs')).length<=aj:=by unfold TR;rw[aw];omega
  have lq:(PR ws).length<=aj:=by have:=w1.hi;unfold PR;rw[aw];omega
  have tg:∀u v:PV,bx (.many [3,4]) (.tup [u,v]) [some (.lst (ns.map PV.int)),some (.ref 0),v2,v3,v4,v5,v6,v7,v8,v9,v10,v11,v12,v13,v14,v15]=some [some (.lst (ns.map PV.int)),some (.ref 0),v2,some u,some v,v5,v6,v7,v8,v9,v10,v11,v12,v13,v14,v15]:=fun u v=>rfl
  simp_arith[gu,List.take_succ_cons,List.take_zero,fE,c1,hsz,c2,List.length_cons,List.length_nil,ag (show(2:Nat)<=aj by decide),tg,c3,i1,bt,Option.getD_some,List.replicate_succ,List.replicate_zero,c4,lp,aL,tp,c5,i2,c6,lq,tq,cB',cF,cS']
 ·show(aM A 59&&(a_ l2 58&&true))=true;rw[hA,show aM (.tup (t1 x sz r rs')) 59=true from o1,o2];rfl
theorem Of{wf nn:Nat}{ns:List Int}{S:aa}{k:Nat}{v2 v3 v4 v5 v6 v7 v8 v9 v10 v11 v12 v13 v14 v15:Option PV}(h:Tn S k)(hk:k+1000<aj)(hwf:70<=wf) :
  ∃S' k' w3 w4 w5 w6 w7 w8 w9 w10 w11 w12 w13 w14 w15,ar (af D wf (nn+8)) wf gu [some (.lst (ns.map PV.int)),some (.ref 0),v2,v3,v4,v5,v6,v7,v8,v9,v10,v11,v12,v13,v14,v15] S=.ok (.next [some (.lst (ns.map PV.int)),some (.ref 0),v2,w3,w4,w5,w6,w7,w8,w9,w10,w11,w12,w13,w14,w15]) S'/\Tn S' k'/\k'<=k+600:=by
 have hL:aj=16777216:=rfl;obtain⟨S1,k1,sz,x,P,R,B,Z,e1,t1,hk1,hs5,oB,oZ,cB,A,C,hZ,cF,cS⟩:=Oe (wf:=wf) (nn:=nn) (ns:=ns) (v2:=v2) (v3:=v3) (v4:=v4) (v5:=v5) (v6:=v6) (v7:=v7) (v8:=v8) (v9:=v9) (v10:=v10) (v11:=v11) (v12:=v12) (v13:=v13) (v14:=v14) (v15:=v15) h hk hwf;have u0:=Od (s:=(sz:Int)) (f:=2) (m:=40) t1;have m1:=v_ (wf:=wf) (k:=nn+7) (S:=S1) (size:=(sz:Int)) (first:=2) (most:=40) (by omega) (by omega)
 obtain⟨N,hN⟩:∃N,N=d_ S1 (sz:Int) 2 40:=⟨_,rfl⟩
 have lN:N.length=S1.length+3:=by rw[hN];exact pI
 rw[←hN]at u0 m1;have m2:=v_ (wf:=wf) (k:=nn+7) (S:=N) (size:=(sz:Int)) (first:=2) (most:=40) (by omega) (by omega)
 obtain⟨M,hM⟩:∃M,M=d_ N (sz:Int) 2 40:=⟨_,rfl⟩
 have lM:M.length=S1.length+6:=by rw[hM,pI,lN]
 rw[←hM]at u0 m2;have m3:=v_ (wf:=wf) (k:=nn+7) (S:=M) (size:=(sz:Int)) (first:=2) (most:=40) (by omega) (by omega)
 obtain⟨O,hO⟩:∃O,O=d_ M (sz:Int) 2 40:=⟨_,rfl⟩
 rw[←hO]at u0 m3;rw[←lN,←lM]at u0;obtain⟨ro',S2,hloop,p,here',k2,w13,w14,w15,j1,_,_,j4,j6,hro⟩:=i9 (f:=ar (af D wf (nn+8)) wf ql) (tg:=.one 13) (ck:=none)
  (fun i ro T=>∃(p:PL)(here:Int)(k':Nat)(w13 w14 w15:Option PV),U3 T k' S1.length N.length M.length p p (dg sz 2 40)/\cw p/\p.size=sz/\p.kept.length<=i/\k'<=k1+20*i/\ro=[some (.lst (ns.map PV.int)),some (.ref 0),v2,some (.int (sz:Int)),some (.int x),some P,some R,some B,some Z,some (.ref S1.length),some (.ref N.length),some (.ref M.length),some (.int here),w13,w14,w15]) (bI 0 20) 0 (fun i y ro T hy ⟨p,here,k',w13,w14,w15,j1,j2,j3,j4,j6,hro⟩=>by
   subst hro;rw[gX]at *;have hi:i<20:=by
    have:=(bF.mp hy).1
    rwa [ja]at this
   obtain⟨S',k2,p',here',u14,u15,g1,g2,g3,g4,g5,g6⟩:=Oc (wf:=wf) (nn:=nn+3) (ns:=ns) (sz:=sz) (here:=here) (v2:=v2) (v4:=some (.int x)) (v5:=some P) (v6:=some R) (v7:=some B) (v8:=some Z) (v11:=some (.ref M.length)) (v13:=some y) (v14:=w14) (v15:=w15) j1 (by omega) hs5 j2 j3 (by omega);exact⟨bL _,_,_,_,rfl,g1,_,.inl rfl,p',here',k2,_,_,_,g2,g4,g5,by omega,by omega,rfl⟩) (fun _ _ _=>bL _) [some (.lst (ns.map PV.int)),some (.ref 0),v2,some (.int (sz:Int)),some (.int x),some P,some R,some B,some Z,some (.ref S1.length),some (.ref N.length),some (.ref M.length),some (.int x),v13,v14,v15] O
   ⟨_,_,_,_,_,_,u0,L9 (by omega) (by omega),rfl,aF _,by omega,rfl⟩
 rw[ja]at j4 j6;refine⟨S2,k2,some (.int (sz:Int)),some (.int x),some P,some R,some B,some Z,some (.ref S1.length),some (.ref N.length),some (.ref M.length),some (.int here'),w13,w14,w15,?_,j1.t2.tw,by omega⟩;have i20:a8 O .range [.int 20]=some ⟨bI 0 20,none⟩:=eJ (by decide);have mid:ar (af D wf (nn+8)) wf ((gu.drop 4).take 3) [some (.lst (ns.map PV.int)),some (.ref 0),v2,some (.int (sz:Int)),some (.int x),some P,some R,some B,some Z,v9,v10,v11,v12,v13,v14,v15] S1=.ok (.next ro') S2:=by
  simp_arith[gu,List.take_succ_cons,List.take_zero,qd,iC,fE,m1,m2,m3,ag (show([.ref S1.length,.ref N.length,.ref M.length]:List PV).length=[9,10,11].length from rfl),i20,hloop]
 subst hro;have w1:af D wf (nn+8) 38 [.ref S1.length] S2=.ok (TI (dk (p.kept.map (·.1)))) S2:=rq j1.t2.one (by omega);have w2:af D wf (nn+8) 38 [.ref N.length] S2=.ok (TI (dk (p.kept.map (·.1)))) S2:=rq j1.t2.two (by omega);have w3:af D wf (nn+8) 38 [.ref M.length] S2=.ok (TI []) S2:=by
  have:=rq (wf:=wf) (k:=nn+7) j1.idle (by show 0<64;decide);rw[this];show ac.ok (TI (dk ([]:List Int))) S2=_;simp[dk]
 have q1:af D wf (nn+8) 39 [.ref S1.length] S2=.ok (TI (lF.map p.tally)) S2:=rz j1.t2.one;have q2:af D wf (nn+8) 39 [.ref N.length] S2=.ok (TI (lF.map p.tally)) S2:=rz j1.t2.two;have q3:af D wf (nn+8) 39 [.ref M.length] S2=.ok (TI [0,0,0,0,0,0,0,0,0]) S2:=rz j1.idle;have mw:∀{z a b:Nat}{r:PL},At S2 z a b r->bJ S2 am kG (.ref z)=.ok (.ref z) S2:=fun g=>fL g rfl;have ms:∀{z a b:Nat}{r:PL},At S2 z a b r->bJ S2 am kH (.ref z)=.ok (.ref z) S2:=fun g=>fL g rfl;have n2:∀T x,aK T .ne (TI x) (TI x)=.ok (.bl false) T:=fun T x=>wa;have n3:∀T,aK T .ne (TI []) (.tup [])=.ok (.bl false) T:=fun T=>wa (x:=[]);have r9:aN S2 .mul (.tup [.int 0]) (.int 9)=.ok (TI [0,0,0,0,0,0,0,0,0]) S2:=vL (x:=.int 0) (q:=9) (by decide);have n4:aK S2 .ne Z (.tup [A,C])=.ok (.bl false) S2:=by rw[hZ]at oZ ⊢;exact wz oZ
 have fin:ar (af D wf (nn+8)) wf ((gu.drop 4).drop 3) [some (.lst (ns.map PV.int)),some (.ref 0),v2,some (.int (sz:Int)),some (.int x),some P,some R,some B,some Z,some (.ref S1.length),some (.ref N.length),some (.ref M.length),some (.int here'),w13,w14,w15] S2=.ok (.next [some (.lst (ns.map PV.int)),some (.ref 0),v2,some (.int (sz:Int)),some (.int x),some P,some R,some B,some Z,some (.ref S1.length),some (.ref N.length),some (.ref M.length),some (.int here'),w13,w14,w15]) S2:=by
  simp_arith[gu,qd,iC,mw j1.t2.one,mw j1.t2.two,mw j1.idle,ms j1.t2.one,ms j1.t2.two,ms j1.idle,w1,w2,w3,q1,q2,q3,n2,n3,ag (show(0:Nat)<=aj by decide),ag (show(1:Nat)<=aj by decide),ag (show(2:Nat)<=aj by decide),List.length_cons,List.length_nil,r9,cF,cS,n4,cB,wz oB]
 have f1:=(lu (b:=(gu.drop 4).drop 3) mid).trans fin;rw[ke]at f1;have f2:=(lu (b:=gu.drop 4) e1).trans f1;rw[ke]at f2;exact f2
theorem law_true(ns:List Int)(hl:ns.length<=63):∃S',af (R.map (·.d)) 100 10 54 [.lst (ns.map PV.int)] []=.ok (.bl true) S':=by
 have hL:aj=16777216:=rfl;obtain⟨ro',S',hloop,k,_⟩:=i9 (f:=ar (af D 100 9) 100 gu) (tg:=.one 2) (ck:=none)
  (fun i ro T=>∃(k:Nat)(w2 w3 w4 w5 w6 w7 w8 w9 w10 w11 w12 w13 w14 w15:Option PV),Tn T k/\k<=600*i/\ro=[some (.lst (ns.map PV.int)),some (.ref 0),w2,w3,w4,w5,w6,w7,w8,w9,w10,w11,w12,w13,w14,w15]) (bI 0 4) 0 (fun i x ro T hx ⟨k,w2,w3,w4,w5,w6,w7,w8,w9,w10,w11,w12,w13,w14,w15,j1,j2,hro⟩=>by
   subst hro;rw[gX]at *;have hi:i<4:=by
    have:=(bF.mp hx).1
    rwa [ja]at this
   obtain⟨S',k',u3,u4,u5,u6,u7,u8,u9,u10,u11,u12,u13,u14,u15,g1,g2,g3⟩:=Of (wf:=100) (nn:=1) (ns:=ns) (v2:=some x) (v3:=w3) (v4:=w4) (v5:=w5) (v6:=w6) (v7:=w7) (v8:=w8) (v9:=w9) (v10:=w10) (v11:=w11) (v12:=w12) (v13:=w13) (v14:=w14) (v15:=w15) j1 (by omega) (by decide);exact⟨bL _,_,_,_,rfl,g1,_,.inl rfl,k',_,_,_,_,_,_,_,_,_,_,_,_,_,_,g2,by omega,rfl⟩) (fun _ _ _=>bL _) [some (.lst (ns.map PV.int)),some (.ref 0),none,none,none,none,none,none,none,none,none,none,none,none,none,none] [.lst (zs 0)]
   ⟨0,_,_,_,_,_,_,_,_,_,_,_,_,_,_,rfl,jl _,rfl⟩
 refine⟨[],(aO (d:=tM.d) (p:=.bl true) (S1:=S') rfl rfl ?_).trans (vr (S:=[]) (S2:=S') (vt _ _))⟩;show ar (af D 100 9) 100 tL [some (.lst (ns.map PV.int)),none,none,none,none,none,none,none,none,none,none,none,none,none,none,none] []=_;have i4:a8 [.lst []] .range [.int 4]=some ⟨bI 0 4,none⟩:=eJ (by decide);have z0:[MO.lst (zs 0)]=[.lst []]:=rfl;rw[z0]at hloop
 simp_arith[tL,List.length_nil,List.nil_append,ag (show(0:Nat)<=aj by decide),i4,hloop]
end QL
namespace QL
open PySem PySem.Spec PyProof.Rows L2 PySem.SeqAt Q PySem.W
theorem mI:∀(i:Nat)(r:ax),R[i]?=some r->∀(kV doc pm:Value)(an:Option Addr)(cdv ct:Value)(us:List Value),us.length=r.ps.length->bindArgs (PySem.W.fnOf r.name r.qual (kr r.st) (fR r.st) (cL r.st) .none kV doc pm an cdv ct) { pos:=us }=pure (r.ps.zip us):=by
 intro i r h
 match i,h with
 |3,h|4,h|5,h|7,h|9,h|10,h|11,h|13,h|15,h|16,h|17,h|19,h|27,h|32,h|33,h|34,h|38,h|39,h|40,h|43,h|53,h|54,h=>cases h;exact fun _ _ _ _ _ _ us hl=>Kl (fun _=>rfl) us hl
 |0,h|1,h|8,h|12,h|14,h|18,h|20,h|21,h|26,h|30,h|35,h|36,h|37,h|41,h|42,h|51,h|52,h=>cases h;exact fun _ _ _ _ _ _ us hl=>Km (fun _ _=>rfl) us hl
 |2,h|6,h|24,h|25,h|29,h|31,h|44,h|47,h|48,h|49,h=>cases h;exact fun _ _ _ _ _ _ us hl=>Kn (fun _ _ _=>rfl) us hl
 |22,h|23,h|28,h|45,h|46,h|50,h=>cases h;exact fun _ _ _ _ _ _ us hl=>Ko (fun _ _ _ _=>rfl) us hl
 |i+55,h=>cases h
noncomputable def hk:PySem.W.Hook:=A6 417 own R G ats me
theorem left:PySem.W.LeftO PySem.Challenge.pw_soundroad_k37_whole_asked_twice view [Str.ofString "STEPS"] xt hk.obs hk.val 5988:=fun w=>PySem.W.byRow2 (P:=fun w=>(PySem.W.openEnds treeTable PySem.Challenge.pw_soundroad_k37_whole_asked_twice w 5988).map (fun s=>(PySem.W.openSeen view [Str.ofString "STEPS"] (importedModules PySem.Challenge.pw_soundroad_k37_whole_asked_twice.main.body) xt true s,ob s))=some (PySem.W.openGood view [Str.ofString "STEPS"],(true,iJ R))) "special-get-raises" Ec Ed w
theorem Og:PySem.W.OpenLaw.wellSaid PySem.Challenge.rw_soundroad_k37_whole_asked_twice=true:=by kernel_rfl
end QL
open PySem PySem.W PyProof.Rows
set_option maxRecDepth 100000 in
set_option maxHeartbeats 0 in
theorem PySem.Challenge.cw_soundroad_k37_whole_asked_twice_holds : PySem.Challenge.rw_soundroad_k37_whole_asked_twice.Holds := by
 refine PySem.W.holds_law QL.Og fun hs=>?_;refine PySem.W.holds_open (r:=PySem.Challenge.rw_soundroad_k37_whole_asked_twice.row) (q:=QL.view) (loose:=[Str.ofString "STEPS"]) (Xt:=QL.xt) (XP:=XL QL.view []) (N:=5988) QL.left QL.hk.of QL.hk.keeps (fun s e=>?xx) XL.keeps rfl rfl rfl (fun s e=>?xr) rfl hs ?xo ?xb ?hw ?hc
 case xx=>exact xl_of s (gR.mp e).1
 case xr=>exact recFacts_of (gR.mp e).2
 case xo=>decide +kernel
 case xb=>exact⟨rfl,rfl,rfl,rfl,rfl,by decide +kernel⟩
 case hw=>w_witness2
 case hc=>exact Q.Ks (l:=PySem.Challenge.rw_soundroad_k37_whole_asked_twice) (R:=QL.R) (G:=QL.G) (own:=QL.own) (ats:=QL.ats) (me:=QL.me) (mt:=QL.mt) (rs:=QL.rs) (wf:=100) (fuel:=100) (dep:=10) (iL:=54) (rL:=QL.tM) (x:="_law_script") rfl rfl rfl rfl rfl rfl ⟨rfl,by decide,by decide,rfl⟩ QL.mI QL.i8 QL.law_true
