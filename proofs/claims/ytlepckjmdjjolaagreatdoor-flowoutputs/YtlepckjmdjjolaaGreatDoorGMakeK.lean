/- Own texts laid together: MakeKeep, MakeEnter, MakeEnterAll, MakeOne. Conditions: as each theorem says. -/
import Derived.Test.YtlepckjmdjjolaaGreatDoorGMakeP
import Derived.Test.YtlepckjmdjjolaaGreatDoorGMakeE
import Derived.Deep.AppendLies
import Derived.Test.YtlepckjmdjjolaaGreatDoorGRegAll
import Derived.Deep.QuietTactic
import Derived.BigQuiet
set_option maxHeartbeats 2000000
set_option maxRecDepth 100000
set_option linter.unusedVariables false
set_option linter.unusedSimpArgs false
namespace Go.Proofs.YtlepckjmdjjolaaGreatDoor
open Go.ChangeShapes Go.WideShapes Go.ChangeAt Go.RowKit
def KeepM (B:Nat) (w w':World):Prop:=
 Below B w w'/\∀ (k:Nat) (cs:Array Value) (t:TypeId) (fr:Nat × Nat),w.heap[k]?=some (.cells cs t fr)->t≠92->t≠9->t≠4->t≠3->w'.heap[k]?=some (.cells cs t fr)
theorem KeepM.refl (B:Nat) (w:World):KeepM B w w:=⟨Below.refl _ _,fun _ _ _ _ h _ _ _ _=>h⟩
theorem KeepM.trans {B:Nat} {a b c:World} (h:KeepM B a b) (k:KeepM B b c):KeepM B a c:=⟨h.1.trans k.1,fun i cs t fr hi h1 h2 h3 h4=>k.2 i cs t fr (h.2 i cs t fr hi h1 h2 h3 h4) h1 h2 h3 h4⟩
theorem KeepM.of_below {B:Nat} {w w':World} (hB:B<=w.heap.size) (h:Below w.heap.size w w'):KeepM B w w':=⟨h.mono hB,fun k cs t fr hk _ _ _ _=>(h.block k (heap_lt hk)).trans hk⟩
theorem KeepM.alloc {B:Nat} {a w:World} (h:KeepM B a w) (hB:B<=w.heap.size) (o:Obj):KeepM B a (w.alloc o):=h.trans (KeepM.of_below hB ((Below.refl _ _).alloc (Nat.le_refl _) o))
theorem KeepM.drew {B:Nat} {a w:World} (h:KeepM B a w):KeepM B a w.drew:=⟨⟨h.1.os,h.1.tape,h.1.output,h.1.size,h.1.block⟩,h.2⟩
theorem KeepM.of_grown {B bm:Nat} {E:Env} {ns:List UInt8} {w w':World} (h:MakerAt B bm E ns w) (hg:w.grownBy w' (some bm)):KeepM B w w':=by
 have hB:=h.base
 obtain ⟨h1,nv,lv,sv,cv,h2,_⟩:=h
 refine ⟨⟨hg.os,hg.tape,hg.output,hg.size,fun k hk=>hg.block k (by omega) (fun e=>by cases e;omega)⟩,fun k cs t fr hk hm _ _ _=>?_⟩
 exact (hg.block k (heap_lt hk) (fun e=>by cases e;rw [h2] at hk;cases hk;exact hm rfl)).trans hk
theorem KeepM.size {B:Nat} {w w':World} (h:KeepM B w w'):w.heap.size<=w'.heap.size:=h.1.size
theorem KeepM.same35 {B:Nat} {w w':World} (h:KeepM B w w') (lo hi:Nat):Same35 lo hi w w':=fun g cs fr _ _ hg=>h.2 g cs _ fr hg (by decide) (by decide) (by decide) (by decide)
theorem KeepM.same45 {B:Nat} {w w':World} (h:KeepM B w w') (lo hi:Nat):Same45 lo hi w w':=fun g cs fr _ _ hg=>h.2 g cs _ fr hg (by decide) (by decide) (by decide) (by decide)
@[reducible] def enterOps:Array Oper:=#[{ dst:=some 29,op:=Op.move (Operand.tmp 0),type:=88,pos := "law.go:124",after:=#[],guard:=none },{ dst:=some 30,op:=Op.move (Operand.tmp 0),type:=88,pos := "law.go:124",after:=#[{ on:=26,ground:=Ground.gcOnly Departure.lateStores }],guard:=none },{ dst:=some 31,op:=Op.move (Operand.tmp 0),type:=88,pos := "law.go:124",after:=#[{ on:=29,ground:=Ground.gcOnly Departure.lateStores }],guard:=none },{ dst:=some 32,op:=Op.move (Operand.tmp 0),type:=88,pos := "law.go:124",after:=#[],guard:=none },{ dst:=some 33,op:=Op.nilCheck (Operand.tmp 32),type:=0,pos := "law.go:124",after:=#[{ on:=3,ground:=Ground.data }],guard:=none },{ dst:=some 34,op:=Op.fieldAddr 92 (Operand.tmp 33) 1,type:=0,pos := "law.go:124",after:=#[{ on:=4,ground:=Ground.data }],guard:=none },{ dst:=some 35,op:=Op.load 83 (Operand.tmp 34),type:=83,pos := "law.go:124",after:=#[{ on:=5,ground:=Ground.data }],guard:=none },{ dst:=some 36,op:=Op.move (Operand.tmp 7),type:=9,pos := "law.go:124",after:=#[],guard:=none },{ dst:=some 37,op:=Op.buildSlice 83 1 #[(0,Operand.tmp 36)],type:=83,pos := "law.go:124",after:=#[{ on:=7,ground:=Ground.data }],guard:=none },{ dst:=some 38,op:=Op.call { callee:=Callee.builtin Builtin.append,args:=#[Operand.tmp 35,Operand.tmp 37],argTypes:=#[83,83] },type:=83,pos := "law.go:124",after:=#[{ on:=6,ground:=Ground.data },{ on:=8,ground:=Ground.data }],guard:=none },{ dst:=some 39,op:=Op.move (Operand.tmp 0),type:=88,pos := "law.go:124",after:=#[],guard:=none },{ dst:=some 40,op:=Op.nilCheck (Operand.tmp 39),type:=0,pos := "law.go:124",after:=#[{ on:=10,ground:=Ground.data }],guard:=none },{ dst:=some 41,op:=Op.fieldAddr 92 (Operand.tmp 40) 2,type:=0,pos := "law.go:124",after:=#[{ on:=11,ground:=Ground.data }],guard:=none },{ dst:=some 42,op:=Op.load 89 (Operand.tmp 41),type:=89,pos := "law.go:124",after:=#[{ on:=12,ground:=Ground.data }],guard:=none },{ dst:=some 43,op:=Op.move (Operand.tmp 1),type:=4,pos := "law.go:124",after:=#[],guard:=none },{ dst:=some 44,op:=Op.buildSlice 89 1 #[(0,Operand.tmp 43)],type:=89,pos := "law.go:124",after:=#[{ on:=14,ground:=Ground.data }],guard:=none },{ dst:=some 45,op:=Op.call { callee:=Callee.builtin Builtin.append,args:=#[Operand.tmp 42,Operand.tmp 44],argTypes:=#[89,89] },type:=89,pos := "law.go:124",after:=#[{ on:=13,ground:=Ground.data },{ on:=15,ground:=Ground.data },{ on:=9,ground:=Ground.chain }],guard:=none },{ dst:=some 46,op:=Op.move (Operand.tmp 0),type:=88,pos := "law.go:124",after:=#[],guard:=none },{ dst:=some 47,op:=Op.nilCheck (Operand.tmp 46),type:=0,pos := "law.go:124",after:=#[{ on:=17,ground:=Ground.data }],guard:=none },{ dst:=some 48,op:=Op.fieldAddr 92 (Operand.tmp 47) 3,type:=0,pos := "law.go:124",after:=#[{ on:=18,ground:=Ground.data }],guard:=none },{ dst:=some 49,op:=Op.load 90 (Operand.tmp 48),type:=90,pos := "law.go:124",after:=#[{ on:=19,ground:=Ground.data }],guard:=none },{ dst:=some 50,op:=Op.move (Operand.tmp 2),type:=3,pos := "law.go:124",after:=#[],guard:=none },{ dst:=some 51,op:=Op.buildSlice 90 1 #[(0,Operand.tmp 50)],type:=90,pos := "law.go:124",after:=#[{ on:=21,ground:=Ground.data }],guard:=none },{ dst:=some 52,op:=Op.call { callee:=Callee.builtin Builtin.append,args:=#[Operand.tmp 49,Operand.tmp 51],argTypes:=#[90,90] },type:=90,pos := "law.go:124",after:=#[{ on:=20,ground:=Ground.data },{ on:=22,ground:=Ground.data },{ on:=16,ground:=Ground.chain }],guard:=none },{ dst:=some 53,op:=Op.nilCheck (Operand.tmp 29),type:=0,pos := "law.go:124",after:=#[{ on:=0,ground:=Ground.data },{ on:=0,ground:=Ground.phase },{ on:=1,ground:=Ground.textOnly Departure.lateStores },{ on:=2,ground:=Ground.textOnly Departure.lateStores },{ on:=3,ground:=Ground.phase },{ on:=4,ground:=Ground.phase },{ on:=5,ground:=Ground.phase },{ on:=6,ground:=Ground.phase },{ on:=7,ground:=Ground.phase },{ on:=8,ground:=Ground.phase },{ on:=9,ground:=Ground.phase },{ on:=10,ground:=Ground.textOnly Departure.lateStores },{ on:=11,ground:=Ground.textOnly Departure.lateStoresUnsure },{ on:=12,ground:=Ground.textOnly Departure.lateStoresUnsure },{ on:=13,ground:=Ground.phase },{ on:=14,ground:=Ground.textOnly Departure.lateStores },{ on:=15,ground:=Ground.textOnly Departure.lateStoresUnsure },{ on:=16,ground:=Ground.phase },{ on:=17,ground:=Ground.textOnly Departure.lateStores },{ on:=18,ground:=Ground.textOnly Departure.lateStoresUnsure },{ on:=19,ground:=Ground.textOnly Departure.lateStoresUnsure },{ on:=20,ground:=Ground.phase },{ on:=21,ground:=Ground.textOnly Departure.lateStores },{ on:=22,ground:=Ground.textOnly Departure.lateStoresUnsure },{ on:=23,ground:=Ground.phase }],guard:=none },{ dst:=some 54,op:=Op.fieldAddr 92 (Operand.tmp 53) 1,type:=0,pos := "law.go:124",after:=#[{ on:=24,ground:=Ground.data },{ on:=0,ground:=Ground.phase },{ on:=1,ground:=Ground.textOnly Departure.lateStores },{ on:=2,ground:=Ground.textOnly Departure.lateStores },{ on:=3,ground:=Ground.phase },{ on:=4,ground:=Ground.phase },{ on:=5,ground:=Ground.phase },{ on:=6,ground:=Ground.phase },{ on:=7,ground:=Ground.phase },{ on:=8,ground:=Ground.phase },{ on:=9,ground:=Ground.phase },{ on:=10,ground:=Ground.textOnly Departure.lateStores },{ on:=11,ground:=Ground.textOnly Departure.lateStoresUnsure },{ on:=12,ground:=Ground.textOnly Departure.lateStoresUnsure },{ on:=13,ground:=Ground.phase },{ on:=14,ground:=Ground.textOnly Departure.lateStores },{ on:=15,ground:=Ground.textOnly Departure.lateStoresUnsure },{ on:=16,ground:=Ground.phase },{ on:=17,ground:=Ground.textOnly Departure.lateStores },{ on:=18,ground:=Ground.textOnly Departure.lateStoresUnsure },{ on:=19,ground:=Ground.textOnly Departure.lateStoresUnsure },{ on:=20,ground:=Ground.phase },{ on:=21,ground:=Ground.textOnly Departure.lateStores },{ on:=22,ground:=Ground.textOnly Departure.lateStoresUnsure },{ on:=23,ground:=Ground.phase }],guard:=none },{ dst:=none,op:=Op.store 83 (Operand.tmp 54) (Operand.tmp 38),type:=0,pos := "law.go:124",after:=#[{ on:=25,ground:=Ground.data },{ on:=9,ground:=Ground.data },{ on:=23,ground:=Ground.chain },{ on:=0,ground:=Ground.phase },{ on:=1,ground:=Ground.textOnly Departure.lateStores },{ on:=2,ground:=Ground.textOnly Departure.lateStores },{ on:=3,ground:=Ground.phase },{ on:=4,ground:=Ground.phase },{ on:=5,ground:=Ground.phase },{ on:=6,ground:=Ground.phase },{ on:=7,ground:=Ground.phase },{ on:=8,ground:=Ground.phase },{ on:=9,ground:=Ground.phase },{ on:=10,ground:=Ground.textOnly Departure.lateStores },{ on:=11,ground:=Ground.textOnly Departure.lateStoresUnsure },{ on:=12,ground:=Ground.textOnly Departure.lateStoresUnsure },{ on:=13,ground:=Ground.phase },{ on:=14,ground:=Ground.textOnly Departure.lateStores },{ on:=15,ground:=Ground.textOnly Departure.lateStoresUnsure },{ on:=16,ground:=Ground.phase },{ on:=17,ground:=Ground.textOnly Departure.lateStores },{ on:=18,ground:=Ground.textOnly Departure.lateStoresUnsure },{ on:=19,ground:=Ground.textOnly Departure.lateStoresUnsure },{ on:=20,ground:=Ground.phase },{ on:=21,ground:=Ground.textOnly Departure.lateStores },{ on:=22,ground:=Ground.textOnly Departure.lateStoresUnsure },{ on:=23,ground:=Ground.phase }],guard:=none },{ dst:=some 55,op:=Op.nilCheck (Operand.tmp 30),type:=0,pos := "law.go:124",after:=#[{ on:=1,ground:=Ground.data },{ on:=0,ground:=Ground.phase },{ on:=1,ground:=Ground.phase },{ on:=2,ground:=Ground.textOnly Departure.lateStores },{ on:=3,ground:=Ground.phase },{ on:=4,ground:=Ground.phase },{ on:=5,ground:=Ground.phase },{ on:=6,ground:=Ground.phase },{ on:=7,ground:=Ground.phase },{ on:=8,ground:=Ground.phase },{ on:=9,ground:=Ground.phase },{ on:=10,ground:=Ground.phase },{ on:=11,ground:=Ground.phase },{ on:=12,ground:=Ground.phase },{ on:=13,ground:=Ground.phase },{ on:=14,ground:=Ground.phase },{ on:=15,ground:=Ground.phase },{ on:=16,ground:=Ground.phase },{ on:=17,ground:=Ground.textOnly Departure.lateStores },{ on:=18,ground:=Ground.textOnly Departure.lateStoresUnsure },{ on:=19,ground:=Ground.textOnly Departure.lateStoresUnsure },{ on:=20,ground:=Ground.phase },{ on:=21,ground:=Ground.textOnly Departure.lateStores },{ on:=22,ground:=Ground.textOnly Departure.lateStoresUnsure },{ on:=23,ground:=Ground.phase },{ on:=24,ground:=Ground.phase },{ on:=25,ground:=Ground.phase },{ on:=26,ground:=Ground.phase }],guard:=none },{ dst:=some 56,op:=Op.fieldAddr 92 (Operand.tmp 55) 2,type:=0,pos := "law.go:124",after:=#[{ on:=27,ground:=Ground.data },{ on:=0,ground:=Ground.phase },{ on:=1,ground:=Ground.phase },{ on:=2,ground:=Ground.textOnly Departure.lateStores },{ on:=3,ground:=Ground.phase },{ on:=4,ground:=Ground.phase },{ on:=5,ground:=Ground.phase },{ on:=6,ground:=Ground.phase },{ on:=7,ground:=Ground.phase },{ on:=8,ground:=Ground.phase },{ on:=9,ground:=Ground.phase },{ on:=10,ground:=Ground.phase },{ on:=11,ground:=Ground.phase },{ on:=12,ground:=Ground.phase },{ on:=13,ground:=Ground.phase },{ on:=14,ground:=Ground.phase },{ on:=15,ground:=Ground.phase },{ on:=16,ground:=Ground.phase },{ on:=17,ground:=Ground.textOnly Departure.lateStores },{ on:=18,ground:=Ground.textOnly Departure.lateStoresUnsure },{ on:=19,ground:=Ground.textOnly Departure.lateStoresUnsure },{ on:=20,ground:=Ground.phase },{ on:=21,ground:=Ground.textOnly Departure.lateStores },{ on:=22,ground:=Ground.textOnly Departure.lateStoresUnsure },{ on:=23,ground:=Ground.phase },{ on:=24,ground:=Ground.phase },{ on:=25,ground:=Ground.phase },{ on:=26,ground:=Ground.phase }],guard:=none },{ dst:=none,op:=Op.store 89 (Operand.tmp 56) (Operand.tmp 45),type:=0,pos := "law.go:124",after:=#[{ on:=28,ground:=Ground.data },{ on:=16,ground:=Ground.data },{ on:=26,ground:=Ground.chain },{ on:=0,ground:=Ground.phase },{ on:=1,ground:=Ground.phase },{ on:=2,ground:=Ground.textOnly Departure.lateStores },{ on:=3,ground:=Ground.phase },{ on:=4,ground:=Ground.phase },{ on:=5,ground:=Ground.phase },{ on:=6,ground:=Ground.phase },{ on:=7,ground:=Ground.phase },{ on:=8,ground:=Ground.phase },{ on:=9,ground:=Ground.phase },{ on:=10,ground:=Ground.phase },{ on:=11,ground:=Ground.phase },{ on:=12,ground:=Ground.phase },{ on:=13,ground:=Ground.phase },{ on:=14,ground:=Ground.phase },{ on:=15,ground:=Ground.phase },{ on:=16,ground:=Ground.phase },{ on:=17,ground:=Ground.textOnly Departure.lateStores },{ on:=18,ground:=Ground.textOnly Departure.lateStoresUnsure },{ on:=19,ground:=Ground.textOnly Departure.lateStoresUnsure },{ on:=20,ground:=Ground.phase },{ on:=21,ground:=Ground.textOnly Departure.lateStores },{ on:=22,ground:=Ground.textOnly Departure.lateStoresUnsure },{ on:=23,ground:=Ground.phase },{ on:=24,ground:=Ground.phase },{ on:=25,ground:=Ground.phase },{ on:=26,ground:=Ground.phase }],guard:=none },{ dst:=some 57,op:=Op.nilCheck (Operand.tmp 31),type:=0,pos := "law.go:124",after:=#[{ on:=2,ground:=Ground.data },{ on:=0,ground:=Ground.phase },{ on:=1,ground:=Ground.phase },{ on:=2,ground:=Ground.phase },{ on:=3,ground:=Ground.phase },{ on:=4,ground:=Ground.phase },{ on:=5,ground:=Ground.phase },{ on:=6,ground:=Ground.phase },{ on:=7,ground:=Ground.phase },{ on:=8,ground:=Ground.phase },{ on:=9,ground:=Ground.phase },{ on:=10,ground:=Ground.phase },{ on:=11,ground:=Ground.phase },{ on:=12,ground:=Ground.phase },{ on:=13,ground:=Ground.phase },{ on:=14,ground:=Ground.phase },{ on:=15,ground:=Ground.phase },{ on:=16,ground:=Ground.phase },{ on:=17,ground:=Ground.phase },{ on:=18,ground:=Ground.phase },{ on:=19,ground:=Ground.phase },{ on:=20,ground:=Ground.phase },{ on:=21,ground:=Ground.phase },{ on:=22,ground:=Ground.phase },{ on:=23,ground:=Ground.phase },{ on:=24,ground:=Ground.phase },{ on:=25,ground:=Ground.phase },{ on:=26,ground:=Ground.phase },{ on:=27,ground:=Ground.phase },{ on:=28,ground:=Ground.phase },{ on:=29,ground:=Ground.phase }],guard:=none },{ dst:=some 58,op:=Op.fieldAddr 92 (Operand.tmp 57) 3,type:=0,pos := "law.go:124",after:=#[{ on:=30,ground:=Ground.data },{ on:=0,ground:=Ground.phase },{ on:=1,ground:=Ground.phase },{ on:=2,ground:=Ground.phase },{ on:=3,ground:=Ground.phase },{ on:=4,ground:=Ground.phase },{ on:=5,ground:=Ground.phase },{ on:=6,ground:=Ground.phase },{ on:=7,ground:=Ground.phase },{ on:=8,ground:=Ground.phase },{ on:=9,ground:=Ground.phase },{ on:=10,ground:=Ground.phase },{ on:=11,ground:=Ground.phase },{ on:=12,ground:=Ground.phase },{ on:=13,ground:=Ground.phase },{ on:=14,ground:=Ground.phase },{ on:=15,ground:=Ground.phase },{ on:=16,ground:=Ground.phase },{ on:=17,ground:=Ground.phase },{ on:=18,ground:=Ground.phase },{ on:=19,ground:=Ground.phase },{ on:=20,ground:=Ground.phase },{ on:=21,ground:=Ground.phase },{ on:=22,ground:=Ground.phase },{ on:=23,ground:=Ground.phase },{ on:=24,ground:=Ground.phase },{ on:=25,ground:=Ground.phase },{ on:=26,ground:=Ground.phase },{ on:=27,ground:=Ground.phase },{ on:=28,ground:=Ground.phase },{ on:=29,ground:=Ground.phase }],guard:=none },{ dst:=none,op:=Op.store 90 (Operand.tmp 58) (Operand.tmp 52),type:=0,pos := "law.go:124",after:=#[{ on:=31,ground:=Ground.data },{ on:=23,ground:=Ground.data },{ on:=29,ground:=Ground.chain },{ on:=0,ground:=Ground.phase },{ on:=1,ground:=Ground.phase },{ on:=2,ground:=Ground.phase },{ on:=3,ground:=Ground.phase },{ on:=4,ground:=Ground.phase },{ on:=5,ground:=Ground.phase },{ on:=6,ground:=Ground.phase },{ on:=7,ground:=Ground.phase },{ on:=8,ground:=Ground.phase },{ on:=9,ground:=Ground.phase },{ on:=10,ground:=Ground.phase },{ on:=11,ground:=Ground.phase },{ on:=12,ground:=Ground.phase },{ on:=13,ground:=Ground.phase },{ on:=14,ground:=Ground.phase },{ on:=15,ground:=Ground.phase },{ on:=16,ground:=Ground.phase },{ on:=17,ground:=Ground.phase },{ on:=18,ground:=Ground.phase },{ on:=19,ground:=Ground.phase },{ on:=20,ground:=Ground.phase },{ on:=21,ground:=Ground.phase },{ on:=22,ground:=Ground.phase },{ on:=23,ground:=Ground.phase },{ on:=24,ground:=Ground.phase },{ on:=25,ground:=Ground.phase },{ on:=26,ground:=Ground.phase },{ on:=27,ground:=Ground.phase },{ on:=28,ground:=Ground.phase },{ on:=29,ground:=Ground.phase }],guard:=none }]
structure EG where
  p1:Nat
  p2:Nat
  p3:Nat
  l:Value
  s:Value
  c:Value
structure EC where
  B:Nat
  bm:Nat
  w0:World
  E:Env
  ns:List UInt8
  nm:ByteArray
  sec:Bool
  cnt:Int
  nv:Value
  lv:Value
  sv:Value
  cv:Value
def enterV (X:EC) (g:EG):Nat->Value
  | 0=>.pointer (some ⟨X.bm,0,none⟩)
  | 1=>.pointer (some ⟨X.bm,0,none⟩)
  | 2=>.pointer (some ⟨X.bm,0,none⟩)
  | 3=>.pointer (some ⟨X.bm,0,none⟩)
  | 4=>.pointer (some ⟨X.bm,0,none⟩)
  | 5=>.pointer (some ⟨X.bm,1,none⟩)
  | 6=>X.lv
  | 7=>.string X.nm
  | 8=>.slice (some ⟨g.p1,0,none⟩) 1 1
  | 9=>g.l
  | 10=>.pointer (some ⟨X.bm,0,none⟩)
  | 11=>.pointer (some ⟨X.bm,0,none⟩)
  | 12=>.pointer (some ⟨X.bm,2,none⟩)
  | 13=>X.sv
  | 14=>.bool X.sec
  | 15=>.slice (some ⟨g.p2,0,none⟩) 1 1
  | 16=>g.s
  | 17=>.pointer (some ⟨X.bm,0,none⟩)
  | 18=>.pointer (some ⟨X.bm,0,none⟩)
  | 19=>.pointer (some ⟨X.bm,3,none⟩)
  | 20=>X.cv
  | 21=>.int .i64 X.cnt
  | 22=>.slice (some ⟨g.p3,0,none⟩) 1 1
  | 23=>g.c
  | 24=>.pointer (some ⟨X.bm,0,none⟩)
  | 25=>.pointer (some ⟨X.bm,1,none⟩)
  | 27=>.pointer (some ⟨X.bm,0,none⟩)
  | 28=>.pointer (some ⟨X.bm,2,none⟩)
  | 30=>.pointer (some ⟨X.bm,0,none⟩)
  | 31=>.pointer (some ⟨X.bm,3,none⟩)
  | _=>undef
theorem writeAll_enter (V:Nat->Value) (t:Array Value):writeAll enterOps V t=((((((((((((((((((((((((((((((t.setIfInBounds 29 (V 0)).setIfInBounds 30 (V 1)).setIfInBounds 31 (V 2)).setIfInBounds 32 (V 3)).setIfInBounds 33 (V 4)).setIfInBounds 34 (V 5)).setIfInBounds 35 (V 6)).setIfInBounds 36 (V 7)).setIfInBounds 37 (V 8)).setIfInBounds 38 (V 9)).setIfInBounds 39 (V 10)).setIfInBounds 40 (V 11)).setIfInBounds 41 (V 12)).setIfInBounds 42 (V 13)).setIfInBounds 43 (V 14)).setIfInBounds 44 (V 15)).setIfInBounds 45 (V 16)).setIfInBounds 46 (V 17)).setIfInBounds 47 (V 18)).setIfInBounds 48 (V 19)).setIfInBounds 49 (V 20)).setIfInBounds 50 (V 21)).setIfInBounds 51 (V 22)).setIfInBounds 52 (V 23)).setIfInBounds 53 (V 24)).setIfInBounds 54 (V 25)).setIfInBounds 55 (V 27)).setIfInBounds 56 (V 28)).setIfInBounds 57 (V 30)).setIfInBounds 58 (V 31)):=by kernel_rfl
theorem infoStr:(Tryz.prog.info? 9).map (fun i=>(i.zero,i.size,i.bytes))=some (some (.string ⟨#[]⟩),1,16):=by kernel_rfl
theorem infoBool:(Tryz.prog.info? 4).map (fun i=>(i.zero,i.size,i.bytes))=some (some (.bool false),1,1):=by kernel_rfl
theorem infoInt:(Tryz.prog.info? 3).map (fun i=>(i.zero,i.size,i.bytes))=some (some (.int .i64 0),1,8):=by kernel_rfl
def pick3 {α : Type} (b:Bool) (x y : α) : α := if b=true then x else y
def EInv (X:EC) (l8 l9 l15 l16 l22 l23 l26 l29 l32:Bool) (g:EG) (w:World):Prop:=
  KeepM X.B X.w0 w/\X.B<=X.bm/\w.heap[X.bm]?=some (.cells #[X.nv,pick3 l26 g.l X.lv,pick3 l29 g.s X.sv,pick3 l32 g.c X.cv,.bool X.E.held,.int .i64 X.E.thread,.int .i64 X.E.deep] 92 (0,0))/\NsAt X.B w X.nv X.ns /\
  (l9=false->w.ownsRow X.B 9 1 X.lv X.E.loc.length (X.E.loc.map .string))/\(l9=true->w.ownsRow X.B 9 1 g.l (X.E.loc.length+1) (X.E.loc.map .string++[.string X.nm])) /\
  (l16=false->w.ownsRow X.B 4 1 X.sv X.E.loc.length (X.E.sec.map .bool))/\(l16=true->w.ownsRow X.B 4 1 g.s (X.E.loc.length+1) (X.E.sec.map .bool++[.bool X.sec])) /\
  (l23=false->w.ownsRow X.B 3 1 X.cv X.E.loc.length (X.E.cnt.map (.int .i64)))/\(l23=true->w.ownsRow X.B 3 1 g.c (X.E.loc.length+1) (X.E.cnt.map (.int .i64)++[.int .i64 X.cnt])) /\
  (l8=true->l9=false->w.heap[g.p1]?=some (.cells #[.string X.nm] 9 (0,0)))/\(l15=true->l16=false->w.heap[g.p2]?=some (.cells #[.bool X.sec] 4 (0,0)))/\(l22=true->l23=false->w.heap[g.p3]?=some (.cells #[.int .i64 X.cnt] 3 (0,0)))
def enterInv (X:EC) (L:Nat->Bool) (g:EG) (w:World):Prop:=EInv X (L 8) (L 9) (L 15) (L 16) (L 22) (L 23) (L 26) (L 29) (L 32) g w
theorem own_grown {w w':World} {B:Nat} {e t:TypeId} {v:Value} {n:Nat} {xs:List Value} (h:w.ownsRow B e 1 v n xs) {v2:Value} {n2:Nat} {xs2:List Value} (h2:w.ownsRow B t 1 v2 n2 xs2) (hne:t≠e) (hg:w.grownBy w' v2.ownBlock):w'.ownsRow B e 1 v n xs:=by
  rcases h2.2 with ⟨rfl,_⟩ | ⟨g,cap,cur,rfl,_,hh,_⟩
  · exact h.kept hg (by cases hv:v.ownBlock with | none=>exact .inl rfl | some k=>exact .inr (by simp [Value.ownBlock]))
  · exact h.kept hg (.inr (Lib.ownBlock_ne h hh hne))
theorem block_grown {w w':World} {B:Nat} {t u:TypeId} {v2:Value} {n2:Nat} {xs2:List Value} (h2:w.ownsRow B t 1 v2 n2 xs2) (hg:w.grownBy w' v2.ownBlock) {k:Nat} {cs:Array Value} {fr:Nat × Nat} (hk:w.heap[k]?=some (.cells cs u fr)) (hne:u≠t):w'.heap[k]?=some (.cells cs u fr):=
  (hg.block k (heap_lt hk) (fun e=>Lib.ownBlock_ne h2 hk hne e.symm)).trans hk
theorem row_base {w:World} {B:Nat} {t:TypeId} {v2:Value} {n2:Nat} {xs2:List Value} (h2:w.ownsRow B t 1 v2 n2 xs2):∀ k,v2.ownBlock=some k->B<=k:=fun k hk=>by
  rcases h2.2 with ⟨rfl,_⟩ | ⟨g,cap,cur,rfl,hb,hh,_⟩
  · cases hk
  · cases hk;exact hb
theorem keep_row {w0 w w':World} {B:Nat} {t:TypeId} {v2:Value} {n2:Nat} {xs2:List Value} (hK:KeepM B w0 w) (hB:B<=w.heap.size) (h2:w.ownsRow B t 1 v2 n2 xs2) (ht:t=9\/t=4\/t=3) (hg:w.grownBy w' v2.ownBlock):KeepM B w0 w':=by
  refine hK.trans ⟨(Below.refl B w).grown hg hB (row_base h2),fun k cs u fr hk a b c d=>block_grown h2 hg hk (fun e=>?_)⟩
  subst e
  rcases ht with e | e | e
  · exact b e
  · exact c e
  · exact d e
theorem ns_grown {w w':World} {B:Nat} {t:TypeId} {v2 nv:Value} {n2:Nat} {xs2:List Value} {ns:List UInt8} (hN:NsAt B w nv ns) (hB:B<=w.heap.size) (h2:w.ownsRow B t 1 v2 n2 xs2) (hg:w.grownBy w' v2.ownBlock):NsAt B w' nv ns:=
  hN.on fun k hk=>hg.block k (by omega) (fun e=>by have:=row_base h2 k e.symm;omega)
theorem EInv.alloc {X:EC} {l8 l9 l15 l16 l22 l23 l26 l29 l32:Bool} {g:EG} {w:World} (h:EInv X l8 l9 l15 l16 l22 l23 l26 l29 l32 g w) (o:Obj):EInv X l8 l9 l15 l16 l22 l23 l26 l29 l32 g (w.alloc o):=by
  obtain ⟨h1,h2,h3,h4,r1,r2,r3,r4,r5,r6,b1,b2,b3⟩:=h
  have hB:X.B<=w.heap.size:=by have:=heap_lt h3;omega
  have hg:w.grownBy (w.alloc o) none:=World.grownBy_alloc w o none
  have hn:∀ v:Value,v.ownBlock=none\/v.ownBlock≠none:=fun v=>by cases hv:v.ownBlock <;> simp
  have old:∀ {k:Nat} {x:Obj},w.heap[k]?=some x->(w.alloc o).heap[k]?=some x:=fun {k x} hk=>(Lib.alloc_old w o k (heap_lt hk)).trans hk
  exact ⟨h1.alloc hB o,h2,old h3,h4.on (fun k hk=>Lib.alloc_old w o k (by omega)),fun e=>(r1 e).kept hg (hn _),fun e=>(r2 e).kept hg (hn _),fun e=>(r3 e).kept hg (hn _),fun e=>(r4 e).kept hg (hn _),fun e=>(r5 e).kept hg (hn _),fun e=>(r6 e).kept hg (hn _),fun e f=>old (b1 e f),fun e f=>old (b2 e f),fun e f=>old (b3 e f)⟩
theorem EInv.drew {X:EC} {l8 l9 l15 l16 l22 l23 l26 l29 l32:Bool} {g:EG} {w:World} (h:EInv X l8 l9 l15 l16 l22 l23 l26 l29 l32 g w):EInv X l8 l9 l15 l16 l22 l23 l26 l29 l32 g w.drew:=⟨h.1.drew,h.2⟩
theorem EInv.put {X:EC} {l8 l9 l15 l16 l22 l23 l26 l29 l32 m26 m29 m32:Bool} {g:EG} {w:World} (h:EInv X l8 l9 l15 l16 l22 l23 l26 l29 l32 g w) (j:Nat) (u:Value) (hc:(#[X.nv,pick3 l26 g.l X.lv,pick3 l29 g.s X.sv,pick3 l32 g.c X.cv,.bool X.E.held,.int .i64 X.E.thread,.int .i64 X.E.deep]:Array Value).setIfInBounds j u = #[X.nv,pick3 m26 g.l X.lv,pick3 m29 g.s X.sv,pick3 m32 g.c X.cv,.bool X.E.held,.int .i64 X.E.thread,.int .i64 X.E.deep]):
    EInv X l8 l9 l15 l16 l22 l23 m26 m29 m32 g (w.setCell ⟨X.bm,j,none⟩ u):=by
  obtain ⟨h1,h2,h3,h4,r1,r2,r3,r4,r5,r6,b1,b2,b3⟩:=h
  have hB:X.B<=w.heap.size:=by have:=heap_lt h3;omega
  have hg:=set_grown w X.bm j u
  have kept:∀ {e:TypeId} {v:Value} {n:Nat} {xs:List Value},w.ownsRow X.B e 1 v n xs->92≠e->(w.setCell ⟨X.bm,j,none⟩ u).ownsRow X.B e 1 v n xs:=fun ho hne=>ho.kept hg (.inr (Lib.ownBlock_ne ho h3 hne))
  have old:∀ {k:Nat} {cs:Array Value} {t:TypeId} {fr:Nat × Nat},w.heap[k]?=some (.cells cs t fr)->t≠92->(w.setCell ⟨X.bm,j,none⟩ u).heap[k]?=some (.cells cs t fr):=fun {k cs t fr} hk hne=>(hg.block k (heap_lt hk) (fun e=>by cases e;rw [h3] at hk;cases hk;exact hne rfl)).trans hk
  refine ⟨h1.trans ⟨(Below.refl _ w).grown hg hB (fun k hk=>by cases hk;exact h2),fun k cs t fr hk a _ _ _=>old hk a⟩,h2,?_,h4.on (fun k hk=>hg.block k (by omega) (fun e=>by cases e;omega)),fun e=>kept (r1 e) (by decide),fun e=>kept (r2 e) (by decide),fun e=>kept (r3 e) (by decide),fun e=>kept (r4 e) (by decide),fun e=>kept (r5 e) (by decide),fun e=>kept (r6 e) (by decide),fun e f=>old (b1 e f) (by decide),fun e f=>old (b2 e f) (by decide),fun e f=>old (b3 e f) (by decide)⟩
  rw [<- hc]
  exact set_heap h3 j u
theorem enter_region (X:EC) {Q:Exit->Act->World->Prop} {a0:Act} {W:World} (h0:EInv X false false false false false false false false false ⟨0,0,0,X.lv,X.sv,X.cv⟩ W)
    (e0:a0.tmps.getD 0 undef=.pointer (some ⟨X.bm,0,none⟩)) (e1:a0.tmps.getD 1 undef=.bool X.sec) (e2:a0.tmps.getD 2 undef=.int .i64 X.cnt) (e7:a0.tmps.getD 7 undef=.string X.nm) (hz:a0.tmps.size=60) (hlen:X.E.loc.length<=99)
    (hend:∀ (g:EG) w,EInv X true true true true true true true true true g w->Q .normal ⟨writeAll enterOps (enterV X g) a0.tmps,a0.defers⟩ w):(Code.region 2 enterOps true).wp Tryz.prog Q a0 W:=by
  refine wp_region_slots (by kernel_rfl) (by kernel_rfl) (by kernel_rfl) (by kernel_rfl) (enterV X) (enterInv X) ⟨0,0,0,X.lv,X.sv,X.cv⟩ h0.drew ?_ (fun L g w hL hI=>hend g w (by unfold enterInv at hI;rwa [hL 8 (by decide),hL 9 (by decide),hL 15 (by decide),hL 16 (by decide),hL 22 (by decide),hL 23 (by decide),hL 26 (by decide),hL 29 (by decide),hL 32 (by decide)] at hI))
  · intro L g a wr i op hop hLi hpre hC hI hS K hK
    have s0:=(hS.old2 0 (by kernel_rfl)).trans e0
    have s1:=(hS.old2 1 (by kernel_rfl)).trans e1
    have s2:=(hS.old2 2 (by kernel_rfl)).trans e2
    have s7:=(hS.old2 7 (by kernel_rfl)).trans e7
    have hb:=hI.2.2.1
    match i with
    | 0=>
      simp only [enterOps,List.getElem?_toArray,List.getElem?_cons_zero,List.getElem?_cons_succ,Option.some.injEq] at hop
      subst hop
      go_simp
      exact hK _ _ ⟨g,fun _=>rfl,fun _ _ _=>rfl,hI⟩
    | 1=>
      simp only [enterOps,List.getElem?_toArray,List.getElem?_cons_zero,List.getElem?_cons_succ,Option.some.injEq] at hop
      subst hop
      go_simp
      exact hK _ _ ⟨g,fun _=>rfl,fun _ _ _=>rfl,hI⟩
    | 2=>
      simp only [enterOps,List.getElem?_toArray,List.getElem?_cons_zero,List.getElem?_cons_succ,Option.some.injEq] at hop
      subst hop
      go_simp
      exact hK _ _ ⟨g,fun _=>rfl,fun _ _ _=>rfl,hI⟩
    | 3=>
      simp only [enterOps,List.getElem?_toArray,List.getElem?_cons_zero,List.getElem?_cons_succ,Option.some.injEq] at hop
      subst hop
      go_simp
      exact hK _ _ ⟨g,fun _=>rfl,fun _ _ _=>rfl,hI⟩
    | 4=>
      simp only [enterOps,List.getElem?_toArray,List.getElem?_cons_zero,List.getElem?_cons_succ,Option.some.injEq] at hop
      subst hop
      have n3:=hS.new2 3 32 (by kernel_rfl) (pre_at hpre 3 (by kernel_rfl)) (by rw [hz];decide)
      simp only [enterV] at n3
      go_simp
      exact hK _ _ ⟨g,fun _=>rfl,fun _ _ _=>rfl,hI⟩
    | 5=>
      simp only [enterOps,List.getElem?_toArray,List.getElem?_cons_zero,List.getElem?_cons_succ,Option.some.injEq] at hop
      subst hop
      have n4:=hS.new2 4 33 (by kernel_rfl) (pre_at hpre 4 (by kernel_rfl)) (by rw [hz];decide)
      simp only [enterV] at n4
      go_simp
      exact hK _ _ ⟨g,fun _=>rfl,fun _ _ _=>rfl,hI⟩
    | 6=>
      simp only [enterOps,List.getElem?_toArray,List.getElem?_cons_zero,List.getElem?_cons_succ,Option.some.injEq] at hop
      subst hop
      have n5:=hS.new2 5 34 (by kernel_rfl) (pre_at hpre 5 (by kernel_rfl)) (by rw [hz];decide)
      simp only [enterV] at n5
      have hno:L 26=false:=by cases h:L 26 with | false=>rfl | true=>exact absurd (hC.at 26 6 (by kernel_rfl) h) (by simp [hLi])
      have hcell:=(seven_cells hb).2.1
      simp only [pick3,hno,Bool.false_eq_true,if_false] at hcell
      go_simp
      exact hK _ _ ⟨g,fun _=>rfl,fun _ _ _=>rfl,hI⟩
    | 7=>
      simp only [enterOps,List.getElem?_toArray,List.getElem?_cons_zero,List.getElem?_cons_succ,Option.some.injEq] at hop
      subst hop
      go_simp
      exact hK _ _ ⟨g,fun _=>rfl,fun _ _ _=>rfl,hI⟩
    | 8=>
      simp only [enterOps,List.getElem?_toArray,List.getElem?_cons_zero,List.getElem?_cons_succ,Option.some.injEq] at hop
      subst hop
      have n7:=hS.new2 7 36 (by kernel_rfl) (pre_at hpre 7 (by kernel_rfl)) (by rw [hz];decide)
      simp only [enterV] at n7
      go_simp
      refine hK _ _ ⟨{ g with p1:=wr.heap.size },fun _=>rfl,fun j hj hLj=>?_,?_⟩
      · unfold enterV;split <;> first | rfl | exact absurd rfl hj
      · obtain ⟨h1,h2,h3,h4,r1,r2,r3,r4,r5,r6,b1,b2,b3⟩:=EInv.alloc hI (.cells #[.string X.nm] 9)
        exact ⟨h1,h2,h3,h4,r1,r2,r3,r4,r5,r6,fun _ _=>heap_alloc_new wr _,b2,b3⟩
    | 9=>
      simp only [enterOps,List.getElem?_toArray,List.getElem?_cons_zero,List.getElem?_cons_succ,Option.some.injEq] at hop
      subst hop
      have m6:=hS.new 6 35 (by kernel_rfl) (pre_at hpre 6 (by kernel_rfl)) (by rw [hz];decide)
      simp only [enterV] at m6
      have m8:=hS.new 8 37 (by kernel_rfl) (pre_at hpre 8 (by kernel_rfl)) (by rw [hz];decide)
      simp only [enterV] at m8
      obtain ⟨h1,h2,h3,h4,r1,r2,r3,r4,r5,r6,b1,b2,b3⟩:=id hI
      have hB:X.B<=wr.heap.size:=by have:=heap_lt h3;omega
      have hown:=r1 hLi
      have hsrc:=b1 (pre_at hpre 8 (by kernel_rfl)) hLi
      obtain ⟨i0,hi,hz0,hz1,hz2⟩:=info_parts infoStr
      refine wp_append_lies wr (.tmp 35) (.tmp 37) 83 (by rfl) X.B 9 i0 _ 1 16 Tryz.underlying83 hi hz0 hz1 hz2 rfl (by omega) _ X.E.loc.length _ m6 hown ⟨g.p1,0,none⟩ 1 1 [.string X.nm] m8 (by simp) (World.news_of_block hsrc) (by simp [Value.oneCell']) (by omega) (by unfold maxLen;omega) (by omega) hB _ rfl ?_
      intro gg cap w1 hown1 hgrow hat hlt
      have no26:L 26=false:=by cases h:L 26 with | false=>rfl | true=>exact absurd (hC.at 26 9 (by kernel_rfl) h) (by simp [hLi])
      have no29:L 29=false:=by cases h:L 29 with | false=>rfl | true=>exact absurd (hC.at 29 9 (by kernel_rfl) h) (by simp [hLi])
      have no32:L 32=false:=by cases h:L 32 with | false=>rfl | true=>exact absurd (hC.at 32 9 (by kernel_rfl) h) (by simp [hLi])
      refine hK _ _ ⟨{ g with l:=_ },fun _=>rfl,fun j hj hLj=>?_,?_⟩
      · unfold enterV;split <;> first | rfl | exact absurd rfl hj
      · have h3':=block_grown hown hgrow h3 (by decide)
        simp only [enterInv,no26,no29,no32] at h3' ⊢
        exact ⟨keep_row h1 hB hown (by decide) hgrow,h2,by simpa [pick3,no26,no29,no32] using h3',ns_grown h4 hB hown hgrow,(fun e=>by cases e),(fun _=>hown1),(fun e=>own_grown (r3 e) hown (by decide) hgrow),(fun e=>own_grown (r4 e) hown (by decide) hgrow),(fun e=>own_grown (r5 e) hown (by decide) hgrow),(fun e=>own_grown (r6 e) hown (by decide) hgrow),(fun _ e=>by cases e),(fun e f=>block_grown hown hgrow (b2 e f) (by decide)),(fun e f=>block_grown hown hgrow (b3 e f) (by decide))⟩
    | 10=>
      simp only [enterOps,List.getElem?_toArray,List.getElem?_cons_zero,List.getElem?_cons_succ,Option.some.injEq] at hop
      subst hop
      go_simp
      exact hK _ _ ⟨g,fun _=>rfl,fun _ _ _=>rfl,hI⟩
    | 11=>
      simp only [enterOps,List.getElem?_toArray,List.getElem?_cons_zero,List.getElem?_cons_succ,Option.some.injEq] at hop
      subst hop
      have n10:=hS.new2 10 39 (by kernel_rfl) (pre_at hpre 10 (by kernel_rfl)) (by rw [hz];decide)
      simp only [enterV] at n10
      go_simp
      exact hK _ _ ⟨g,fun _=>rfl,fun _ _ _=>rfl,hI⟩
    | 12=>
      simp only [enterOps,List.getElem?_toArray,List.getElem?_cons_zero,List.getElem?_cons_succ,Option.some.injEq] at hop
      subst hop
      have n11:=hS.new2 11 40 (by kernel_rfl) (pre_at hpre 11 (by kernel_rfl)) (by rw [hz];decide)
      simp only [enterV] at n11
      go_simp
      exact hK _ _ ⟨g,fun _=>rfl,fun _ _ _=>rfl,hI⟩
    | 13=>
      simp only [enterOps,List.getElem?_toArray,List.getElem?_cons_zero,List.getElem?_cons_succ,Option.some.injEq] at hop
      subst hop
      have n12:=hS.new2 12 41 (by kernel_rfl) (pre_at hpre 12 (by kernel_rfl)) (by rw [hz];decide)
      simp only [enterV] at n12
      have hno:L 29=false:=by cases h:L 29 with | false=>rfl | true=>exact absurd (hC.at 29 13 (by kernel_rfl) h) (by simp [hLi])
      have hcell:=(seven_cells hb).2.2.1
      simp only [pick3,hno,Bool.false_eq_true,if_false] at hcell
      go_simp
      exact hK _ _ ⟨g,fun _=>rfl,fun _ _ _=>rfl,hI⟩
    | 14=>
      simp only [enterOps,List.getElem?_toArray,List.getElem?_cons_zero,List.getElem?_cons_succ,Option.some.injEq] at hop
      subst hop
      go_simp
      exact hK _ _ ⟨g,fun _=>rfl,fun _ _ _=>rfl,hI⟩
    | 15=>
      simp only [enterOps,List.getElem?_toArray,List.getElem?_cons_zero,List.getElem?_cons_succ,Option.some.injEq] at hop
      subst hop
      have n14:=hS.new2 14 43 (by kernel_rfl) (pre_at hpre 14 (by kernel_rfl)) (by rw [hz];decide)
      simp only [enterV] at n14
      go_simp
      refine hK _ _ ⟨{ g with p2:=wr.heap.size },fun _=>rfl,fun j hj hLj=>?_,?_⟩
      · unfold enterV;split <;> first | rfl | exact absurd rfl hj
      · obtain ⟨h1,h2,h3,h4,r1,r2,r3,r4,r5,r6,b1,b2,b3⟩:=EInv.alloc hI (.cells #[.bool X.sec] 4)
        exact ⟨h1,h2,h3,h4,r1,r2,r3,r4,r5,r6,b1,fun _ _=>heap_alloc_new wr _,b3⟩
    | 16=>
      simp only [enterOps,List.getElem?_toArray,List.getElem?_cons_zero,List.getElem?_cons_succ,Option.some.injEq] at hop
      subst hop
      have m13:=hS.new 13 42 (by kernel_rfl) (pre_at hpre 13 (by kernel_rfl)) (by rw [hz];decide)
      simp only [enterV] at m13
      have m15:=hS.new 15 44 (by kernel_rfl) (pre_at hpre 15 (by kernel_rfl)) (by rw [hz];decide)
      simp only [enterV] at m15
      obtain ⟨h1,h2,h3,h4,r1,r2,r3,r4,r5,r6,b1,b2,b3⟩:=id hI
      have hB:X.B<=wr.heap.size:=by have:=heap_lt h3;omega
      have hown:=r3 hLi
      have hsrc:=b2 (pre_at hpre 15 (by kernel_rfl)) hLi
      obtain ⟨i0,hi,hz0,hz1,hz2⟩:=info_parts infoBool
      refine wp_append_lies wr (.tmp 42) (.tmp 44) 89 (by rfl) X.B 4 i0 _ 1 1 Tryz.underlying89 hi hz0 hz1 hz2 rfl (by omega) _ X.E.loc.length _ m13 hown ⟨g.p2,0,none⟩ 1 1 [.bool X.sec] m15 (by simp) (World.news_of_block hsrc) (by simp [Value.oneCell']) (by omega) (by unfold maxLen;omega) (by omega) hB _ rfl ?_
      intro gg cap w1 hown1 hgrow hat hlt
      have no26:L 26=false:=by cases h:L 26 with | false=>rfl | true=>exact absurd (hC.at 26 16 (by kernel_rfl) h) (by simp [hLi])
      have no29:L 29=false:=by cases h:L 29 with | false=>rfl | true=>exact absurd (hC.at 29 16 (by kernel_rfl) h) (by simp [hLi])
      have no32:L 32=false:=by cases h:L 32 with | false=>rfl | true=>exact absurd (hC.at 32 16 (by kernel_rfl) h) (by simp [hLi])
      refine hK _ _ ⟨{ g with s:=_ },fun _=>rfl,fun j hj hLj=>?_,?_⟩
      · unfold enterV;split <;> first | rfl | exact absurd rfl hj
      · have h3':=block_grown hown hgrow h3 (by decide)
        simp only [enterInv,no26,no29,no32] at h3' ⊢
        exact ⟨keep_row h1 hB hown (by decide) hgrow,h2,by simpa [pick3,no26,no29,no32] using h3',ns_grown h4 hB hown hgrow,(fun e=>own_grown (r1 e) hown (by decide) hgrow),(fun e=>own_grown (r2 e) hown (by decide) hgrow),(fun e=>by cases e),(fun _=>hown1),(fun e=>own_grown (r5 e) hown (by decide) hgrow),(fun e=>own_grown (r6 e) hown (by decide) hgrow),(fun e f=>block_grown hown hgrow (b1 e f) (by decide)),(fun _ e=>by cases e),(fun e f=>block_grown hown hgrow (b3 e f) (by decide))⟩
    | 17=>
      simp only [enterOps,List.getElem?_toArray,List.getElem?_cons_zero,List.getElem?_cons_succ,Option.some.injEq] at hop
      subst hop
      go_simp
      exact hK _ _ ⟨g,fun _=>rfl,fun _ _ _=>rfl,hI⟩
    | 18=>
      simp only [enterOps,List.getElem?_toArray,List.getElem?_cons_zero,List.getElem?_cons_succ,Option.some.injEq] at hop
      subst hop
      have n17:=hS.new2 17 46 (by kernel_rfl) (pre_at hpre 17 (by kernel_rfl)) (by rw [hz];decide)
      simp only [enterV] at n17
      go_simp
      exact hK _ _ ⟨g,fun _=>rfl,fun _ _ _=>rfl,hI⟩
    | 19=>
      simp only [enterOps,List.getElem?_toArray,List.getElem?_cons_zero,List.getElem?_cons_succ,Option.some.injEq] at hop
      subst hop
      have n18:=hS.new2 18 47 (by kernel_rfl) (pre_at hpre 18 (by kernel_rfl)) (by rw [hz];decide)
      simp only [enterV] at n18
      go_simp
      exact hK _ _ ⟨g,fun _=>rfl,fun _ _ _=>rfl,hI⟩
    | 20=>
      simp only [enterOps,List.getElem?_toArray,List.getElem?_cons_zero,List.getElem?_cons_succ,Option.some.injEq] at hop
      subst hop
      have n19:=hS.new2 19 48 (by kernel_rfl) (pre_at hpre 19 (by kernel_rfl)) (by rw [hz];decide)
      simp only [enterV] at n19
      have hno:L 32=false:=by cases h:L 32 with | false=>rfl | true=>exact absurd (hC.at 32 20 (by kernel_rfl) h) (by simp [hLi])
      have hcell:=(seven_cells hb).2.2.2.1
      simp only [pick3,hno,Bool.false_eq_true,if_false] at hcell
      go_simp
      exact hK _ _ ⟨g,fun _=>rfl,fun _ _ _=>rfl,hI⟩
    | 21=>
      simp only [enterOps,List.getElem?_toArray,List.getElem?_cons_zero,List.getElem?_cons_succ,Option.some.injEq] at hop
      subst hop
      go_simp
      exact hK _ _ ⟨g,fun _=>rfl,fun _ _ _=>rfl,hI⟩
    | 22=>
      simp only [enterOps,List.getElem?_toArray,List.getElem?_cons_zero,List.getElem?_cons_succ,Option.some.injEq] at hop
      subst hop
      have n21:=hS.new2 21 50 (by kernel_rfl) (pre_at hpre 21 (by kernel_rfl)) (by rw [hz];decide)
      simp only [enterV] at n21
      go_simp
      refine hK _ _ ⟨{ g with p3:=wr.heap.size },fun _=>rfl,fun j hj hLj=>?_,?_⟩
      · unfold enterV;split <;> first | rfl | exact absurd rfl hj
      · obtain ⟨h1,h2,h3,h4,r1,r2,r3,r4,r5,r6,b1,b2,b3⟩:=EInv.alloc hI (.cells #[.int .i64 X.cnt] 3)
        exact ⟨h1,h2,h3,h4,r1,r2,r3,r4,r5,r6,b1,b2,fun _ _=>heap_alloc_new wr _⟩
    | 23=>
      simp only [enterOps,List.getElem?_toArray,List.getElem?_cons_zero,List.getElem?_cons_succ,Option.some.injEq] at hop
      subst hop
      have m20:=hS.new 20 49 (by kernel_rfl) (pre_at hpre 20 (by kernel_rfl)) (by rw [hz];decide)
      simp only [enterV] at m20
      have m22:=hS.new 22 51 (by kernel_rfl) (pre_at hpre 22 (by kernel_rfl)) (by rw [hz];decide)
      simp only [enterV] at m22
      obtain ⟨h1,h2,h3,h4,r1,r2,r3,r4,r5,r6,b1,b2,b3⟩:=id hI
      have hB:X.B<=wr.heap.size:=by have:=heap_lt h3;omega
      have hown:=r5 hLi
      have hsrc:=b3 (pre_at hpre 22 (by kernel_rfl)) hLi
      obtain ⟨i0,hi,hz0,hz1,hz2⟩:=info_parts infoInt
      refine wp_append_lies wr (.tmp 49) (.tmp 51) 90 (by rfl) X.B 3 i0 _ 1 8 Tryz.underlying90 hi hz0 hz1 hz2 rfl (by omega) _ X.E.loc.length _ m20 hown ⟨g.p3,0,none⟩ 1 1 [.int .i64 X.cnt] m22 (by simp) (World.news_of_block hsrc) (by simp [Value.oneCell']) (by omega) (by unfold maxLen;omega) (by omega) hB _ rfl ?_
      intro gg cap w1 hown1 hgrow hat hlt
      have no26:L 26=false:=by cases h:L 26 with | false=>rfl | true=>exact absurd (hC.at 26 23 (by kernel_rfl) h) (by simp [hLi])
      have no29:L 29=false:=by cases h:L 29 with | false=>rfl | true=>exact absurd (hC.at 29 23 (by kernel_rfl) h) (by simp [hLi])
      have no32:L 32=false:=by cases h:L 32 with | false=>rfl | true=>exact absurd (hC.at 32 23 (by kernel_rfl) h) (by simp [hLi])
      refine hK _ _ ⟨{ g with c:=_ },fun _=>rfl,fun j hj hLj=>?_,?_⟩
      · unfold enterV;split <;> first | rfl | exact absurd rfl hj
      · have h3':=block_grown hown hgrow h3 (by decide)
        simp only [enterInv,no26,no29,no32] at h3' ⊢
        exact ⟨keep_row h1 hB hown (by decide) hgrow,h2,by simpa [pick3,no26,no29,no32] using h3',ns_grown h4 hB hown hgrow,(fun e=>own_grown (r1 e) hown (by decide) hgrow),(fun e=>own_grown (r2 e) hown (by decide) hgrow),(fun e=>own_grown (r3 e) hown (by decide) hgrow),(fun e=>own_grown (r4 e) hown (by decide) hgrow),(fun e=>by cases e),(fun _=>hown1),(fun e f=>block_grown hown hgrow (b1 e f) (by decide)),(fun e f=>block_grown hown hgrow (b2 e f) (by decide)),(fun _ e=>by cases e)⟩
    | 24=>
      simp only [enterOps,List.getElem?_toArray,List.getElem?_cons_zero,List.getElem?_cons_succ,Option.some.injEq] at hop
      subst hop
      have n0:=hS.new2 0 29 (by kernel_rfl) (pre_at hpre 0 (by kernel_rfl)) (by rw [hz];decide)
      simp only [enterV] at n0
      go_simp
      exact hK _ _ ⟨g,fun _=>rfl,fun _ _ _=>rfl,hI⟩
    | 25=>
      simp only [enterOps,List.getElem?_toArray,List.getElem?_cons_zero,List.getElem?_cons_succ,Option.some.injEq] at hop
      subst hop
      have n24:=hS.new2 24 53 (by kernel_rfl) (pre_at hpre 24 (by kernel_rfl)) (by rw [hz];decide)
      simp only [enterV] at n24
      go_simp
      exact hK _ _ ⟨g,fun _=>rfl,fun _ _ _=>rfl,hI⟩
    | 26=>
      simp only [enterOps,List.getElem?_toArray,List.getElem?_cons_zero,List.getElem?_cons_succ,Option.some.injEq] at hop
      subst hop
      have n25:=hS.new2 25 54 (by kernel_rfl) (pre_at hpre 25 (by kernel_rfl)) (by rw [hz];decide)
      simp only [enterV] at n25
      have n9:=hS.new2 9 38 (by kernel_rfl) (pre_at hpre 9 (by kernel_rfl)) (by rw [hz];decide)
      simp only [enterV] at n9
      obtain ⟨gg,cap,hgl,_,_⟩:=(hI.2.2.2.2.2.1 (pre_at hpre 9 (by kernel_rfl))).form (by omega)
      rw [hgl] at n9
      have hfz:=Lib.frozen_of_heap hb 1
      have hcs:=(seven_cells hb).2.1
      go_simp
      refine hK undef _ ⟨g,fun h=>absurd rfl h,fun _ _ _=>rfl,?_⟩
      exact EInv.put hI 1 _ (by simp [pick3,hgl])
    | 27=>
      simp only [enterOps,List.getElem?_toArray,List.getElem?_cons_zero,List.getElem?_cons_succ,Option.some.injEq] at hop
      subst hop
      have n1:=hS.new2 1 30 (by kernel_rfl) (pre_at hpre 1 (by kernel_rfl)) (by rw [hz];decide)
      simp only [enterV] at n1
      go_simp
      exact hK _ _ ⟨g,fun _=>rfl,fun _ _ _=>rfl,hI⟩
    | 28=>
      simp only [enterOps,List.getElem?_toArray,List.getElem?_cons_zero,List.getElem?_cons_succ,Option.some.injEq] at hop
      subst hop
      have n27:=hS.new2 27 55 (by kernel_rfl) (pre_at hpre 27 (by kernel_rfl)) (by rw [hz];decide)
      simp only [enterV] at n27
      go_simp
      exact hK _ _ ⟨g,fun _=>rfl,fun _ _ _=>rfl,hI⟩
    | 29=>
      simp only [enterOps,List.getElem?_toArray,List.getElem?_cons_zero,List.getElem?_cons_succ,Option.some.injEq] at hop
      subst hop
      have n28:=hS.new2 28 56 (by kernel_rfl) (pre_at hpre 28 (by kernel_rfl)) (by rw [hz];decide)
      simp only [enterV] at n28
      have n16:=hS.new2 16 45 (by kernel_rfl) (pre_at hpre 16 (by kernel_rfl)) (by rw [hz];decide)
      simp only [enterV] at n16
      obtain ⟨gg,cap,hgl,_,_⟩:=(hI.2.2.2.2.2.2.2.1 (pre_at hpre 16 (by kernel_rfl))).form (by omega)
      rw [hgl] at n16
      have hfz:=Lib.frozen_of_heap hb 2
      have hcs:=(seven_cells hb).2.2.1
      go_simp
      refine hK undef _ ⟨g,fun h=>absurd rfl h,fun _ _ _=>rfl,?_⟩
      exact EInv.put hI 2 _ (by simp [pick3,hgl])
    | 30=>
      simp only [enterOps,List.getElem?_toArray,List.getElem?_cons_zero,List.getElem?_cons_succ,Option.some.injEq] at hop
      subst hop
      have n2:=hS.new2 2 31 (by kernel_rfl) (pre_at hpre 2 (by kernel_rfl)) (by rw [hz];decide)
      simp only [enterV] at n2
      go_simp
      exact hK _ _ ⟨g,fun _=>rfl,fun _ _ _=>rfl,hI⟩
    | 31=>
      simp only [enterOps,List.getElem?_toArray,List.getElem?_cons_zero,List.getElem?_cons_succ,Option.some.injEq] at hop
      subst hop
      have n30:=hS.new2 30 57 (by kernel_rfl) (pre_at hpre 30 (by kernel_rfl)) (by rw [hz];decide)
      simp only [enterV] at n30
      go_simp
      exact hK _ _ ⟨g,fun _=>rfl,fun _ _ _=>rfl,hI⟩
    | 32=>
      simp only [enterOps,List.getElem?_toArray,List.getElem?_cons_zero,List.getElem?_cons_succ,Option.some.injEq] at hop
      subst hop
      have n31:=hS.new2 31 58 (by kernel_rfl) (pre_at hpre 31 (by kernel_rfl)) (by rw [hz];decide)
      simp only [enterV] at n31
      have n23:=hS.new2 23 52 (by kernel_rfl) (pre_at hpre 23 (by kernel_rfl)) (by rw [hz];decide)
      simp only [enterV] at n23
      obtain ⟨gg,cap,hgl,_,_⟩:=(hI.2.2.2.2.2.2.2.2.2.1 (pre_at hpre 23 (by kernel_rfl))).form (by omega)
      rw [hgl] at n23
      have hfz:=Lib.frozen_of_heap hb 3
      have hcs:=(seven_cells hb).2.2.2.1
      go_simp
      refine hK undef _ ⟨g,fun h=>absurd rfl h,fun _ _ _=>rfl,?_⟩
      exact EInv.put hI 3 _ (by simp [pick3,hgl])
    | n+33=>simp [enterOps] at hop
theorem cat_x2 (a b:UInt8):(⟨#[a]⟩:ByteArray)++⟨#[b]⟩=⟨#[a,b]⟩:=by apply ByteArray.ext;simp [ByteArray.data_append]
theorem cat_x3 (a b c:UInt8):(⟨#[a,b]⟩:ByteArray)++⟨#[c]⟩=⟨#[a,b,c]⟩:=by apply ByteArray.ext;simp [ByteArray.data_append]
theorem cat_x4 (a b c d:UInt8):(⟨#[a,b,c]⟩:ByteArray)++⟨#[d]⟩=⟨#[a,b,c,d]⟩:=by apply ByteArray.ext;simp [ByteArray.data_append]
theorem einv_maker {X:EC} {g:EG} {w:World} (h:EInv X true true true true true true true true true g w) (ht:X.E.thread<=9) (hd:X.E.deep<=100) (hl:X.E.loc.length<=99) (hn:X.nm=nameX X.E):MakerAt X.B X.bm (enterE X.E X.sec X.cnt) X.ns w:=by
  obtain ⟨h1,h2,h3,h4,r1,r2,r3,r4,r5,r6,b1,b2,b3⟩:=h
  have e:(enterE X.E X.sec X.cnt).loc.length=X.E.loc.length+1:=by simp [enterE]
  refine ⟨h2,X.nv,g.l,g.s,g.c,h3,h4,?_,?_,?_,ht,hd,by rw [e];omega⟩
  · rw [e];simpa [enterE,hn] using r2 rfl
  · rw [e];simpa [enterE] using r4 rfl
  · rw [e];simpa [enterE] using r6 rfl
theorem EInv.drewN {X:EC} {l8 l9 l15 l16 l22 l23 l26 l29 l32:Bool} {g:EG} {w:World} (h:EInv X l8 l9 l15 l16 l22 l23 l26 l29 l32 g w):∀ n,EInv X l8 l9 l15 l16 l22 l23 l26 l29 l32 g (w.drewN n)
  | 0=>h
  | n+1=>(EInv.drewN h n).drew
theorem enter_any (B bm:Nat) (E:Env) (ns:List UInt8) (sec:Bool) (cnt:Int) (w:World) (h:MakerAt B bm E ns w) (hlen:E.loc.length<=99):
    Calls Tryz.prog 93 #[.pointer (some ⟨bm,0,none⟩),.bool sec,.int .i64 cnt] w fun e w'=>e=.returned (.string (nameX E))/\MakerAt B bm (enterE E sec cnt) ns w'/\KeepM B w w':=by
  have hB:=h.base
  obtain ⟨h1,nv,lv,sv,cv,h2,h3,h4,h5,h6,h7,h8,h9⟩:=h
  obtain ⟨a0,a1,a2,a3,a4,a5,a6⟩:=seven_cells h2
  obtain ⟨lao,lcap,rfl,_⟩:=own_slice h4
  have D1:=fun w=>digit_any E.thread (by omega) w
  have D2:∀ w,Calls Tryz.prog 34 #[.int .i64 ((E.loc.length:Int) / 10)] w _:=fun w=>digit_any (E.loc.length / 10) (by omega) w
  have D3:=fun w=>digit_any E.loc.length (by omega) w
  have c2:=cat_x2 120 (digitB E.thread)
  have c3:=cat_x3 120 (digitB E.thread) (digitB (E.loc.length / 10))
  have c4:=cat_x4 120 (digitB E.thread) (digitB (E.loc.length / 10)) (digitB E.loc.length)
  have I0:Hid (EInv ⟨B,bm,w,E,ns,nameX E,sec,cnt,nv,.slice lao E.loc.length lcap,sv,cv⟩ false false false false false false false false false ⟨0,0,0,.slice lao E.loc.length lcap,sv,cv⟩ w):=
    ⟨KeepM.refl _ _,h1,h2,h3,fun _=>h4,(fun e=>by cases e),fun _=>h5,(fun e=>by cases e),fun _=>h6,(fun e=>by cases e),(fun e=>by cases e),(fun e=>by cases e),(fun e=>by cases e)⟩
  clear h2 h3 h4 h5 h6
  go_enter Tryz.func93,Tryz.ntmps93
  go_wp2
  go_quiet ((first | (go_at_call 34;exact Calls.quiet_of_same (D1 _)) | (go_at_call 34;exact Calls.quiet_of_same (D2 _)) | (go_at_call 34;exact Calls.quiet_of_same (D3 _))))
  go_wp2
  refine enter_region ⟨B,bm,w,E,ns,nameX E,sec,cnt,nv,.slice lao E.loc.length lcap,sv,cv⟩ (EInv.drewN I0.out _) (by rfl) (by rfl) (by rfl) (by rfl) (by rfl) hlen ?_
  intro g w' hI
  have hM:=einv_maker hI h7 h8 hlen rfl
  have hKp:=hI.1
  have HI:=Lib.hid (And.intro hM hKp)
  clear hI hM hKp I0
  rw [writeAll_enter]
  simp only [enterV,List.setIfInBounds_toArray,List.set_cons_zero,List.set_cons_succ]
  go_wp2
  go_ret
  exact ⟨rfl,HI.out⟩
def MadeS (B bm n:Nat) (w:World) (r:Mk) (e:Ending) (w':World):Prop:=
  ∃ v,e=.returned v/\Stms w.heap.size w'.heap.size w' (fun v' s'=>SRep w.heap.size w'.heap.size w' 13 n v' s') v r.1/\MakerAt B bm r.2.1 r.2.2 w'/\KeepM B w w'
theorem stms1 {lo B:Nat} {w:World} {R:Value->Stm->Prop} {g:Nat} {x0 x1 x2 x3 x4 x5 x6:Value} {x:Stm} (hg:w.heap[g]?=some (.cells #[x0,x1,x2,x3,x4,x5,x6] 45 (0,0))) (hlo:lo<=g) (hB:g<B) (hx:R (.agg #[x0,x1,x2,x3,x4,x5,x6]) x):
    Stms lo B w R (.slice (some ⟨g,0,none⟩) 1 1) [x]:=by
  refine ⟨_,_,rfl,by simp,fun i k h=>?_⟩
  match i,h with
  | 0,h=>simp at h;subst h;exact ⟨g,0,x0,x1,x2,x3,x4,x5,x6,rfl,hlo,hB,⟨_,_,hg,rfl,rfl⟩,by simp [World.cell?,hg],by simp [World.cell?,hg],by simp [World.cell?,hg],by simp [World.cell?,hg],by simp [World.cell?,hg],by simp [World.cell?,hg],by simp [World.cell?,hg],hx⟩
theorem srepE {lo B m n:Nat} {w:World} {k:Int} {s:ByteArray} {es:List Tree} {eao:Option Addr} {ecap:Nat} (hs:s.size<=35184372088832) (hK:Kids lo B w (fun v' t'=>ERep lo B w m v' t') (.slice eao es.length ecap) es):
    SRep lo B w m (n+1) (.agg #[.int .i64 k,.string s,.slice eao es.length ecap,.int .i64 0,.slice none 0 0,.slice none 0 0,.int .i64 0]) (stmE k s es):=
  ⟨by simp [stmE],by simp [stmE],hs,eao,ecap,none,0,none,0,rfl,hK,stms0,stms0⟩
theorem srep0 {lo B m n:Nat} {w:World} {k:Int} {s:ByteArray} (hs:s.size<=35184372088832):
    SRep lo B w m (n+1) (.agg #[.int .i64 k,.string s,.slice none 0 0,.int .i64 0,.slice none 0 0,.slice none 0 0,.int .i64 0]) (stmE k s []):=srepE (es:=[]) hs kids0
theorem mdeep_cell {B bm:Nat} {E:Env} {ns:List UInt8} {w:World} (h:MakerAt B bm E ns w):w.cell? ⟨bm,6,none⟩=some (.int .i64 E.deep):=by
  obtain ⟨_,nv,lv,sv,cv,h2,_⟩:=h
  exact (seven_cells h2).2.2.2.2.2.2
theorem maker_full {B bm:Nat} {E:Env} {ns:List UInt8} {w:World} (h:MakerAt B bm E ns w):fullE E:=by
  obtain ⟨_,nv,lv,sv,cv,h2,h3,h4,h5,h6,_⟩:=h
  exact ⟨by simpa using h5.1,by simpa using h6.1⟩
theorem one_any (k:Int) (s:ByteArray) (eao:Option Addr) (en ecap:Nat) (c:Int) (bao:Option Addr) (bn bcap:Nat) (lao:Option Addr) (ln lcap:Nat) (a:Int) (w:World):
    Calls Tryz.prog 91 #[.agg #[.int .i64 k,.string s,.slice eao en ecap,.int .i64 c,.slice bao bn bcap,.slice lao ln lcap,.int .i64 a]] w fun e w'=>
     ∃ g,e=.returned (.slice (some ⟨g,0,none⟩) 1 1)/\w.heap.size<=g/\g<w'.heap.size/\w'.heap[g]?=some (.cells #[.int .i64 k,.string s,.slice eao en ecap,.int .i64 c,.slice bao bn bcap,.slice lao ln lcap,.int .i64 a] 45 (0,0))/\Below w.heap.size w w':=by
  go_enter Tryz.func91,Tryz.ntmps91
  go_wp2
  go_ret
  refine ⟨_,rfl,?_,?_,?_,((Below.refl _ _).alloc (Nat.le_refl _) _).alloc (by simp) _⟩
  · simp
  · simp
  · rw [alloc_at,if_pos (by simp)]
theorem made_one {B bm n g:Nat} {w w1 w2 w3:World} {k:Int} {s:ByteArray} {E:Env} {tn:Tree × List UInt8} {x0 x1 x2 x3 x4 x5:Value} (hs:s.size<=35184372088832) (hB:B<=w.heap.size) (hK:KeepM B w w2)
    (hE:ERep w1.heap.size w2.heap.size w2 13 (.agg #[x0,x1,x2,x3,x4,x5]) tn.1) (hz:w.heap.size<=w1.heap.size) (hM:MakerAt B bm E tn.2 w2) (hb:Below (w2.alloc (.cells #[x0,x1,x2,x3,x4,x5] 50)).heap.size (w2.alloc (.cells #[x0,x1,x2,x3,x4,x5] 50)) w3)
    (hgl:(w2.alloc (.cells #[x0,x1,x2,x3,x4,x5] 50)).heap.size<=g) (hgr:g<w3.heap.size)
    (hg:w3.heap[g]?=some (.cells #[.int .i64 k,.string s,.slice (some ⟨w2.heap.size,0,none⟩) 1 1,.int .i64 0,.slice none 0 0,.slice none 0 0,.int .i64 0] 45 (0,0))):
    MadeS B bm (n+1) w ([stmE k s [tn.1]],E,tn.2) (.returned (.slice (some ⟨g,0,none⟩) 1 1)) w3:=by
  have hz2:=hK.size
  have hz3:=hb.size
  rw [alloc_size] at hz3 hgl
  have hold:∀ k,k<w2.heap.size->w3.heap[k]?=w2.heap[k]?:=fun k hk=>by
    rw [hb.block k (by rw [alloc_size];omega),alloc_at,if_neg (by omega)]
  have hE3:ERep w.heap.size w3.heap.size w3 13 (.agg #[x0,x1,x2,x3,x4,x5]) tn.1:=hE.carry hz (by omega) fun g cs fr _ hlt hc=>(hold g hlt).trans hc
  have hp:w3.heap[w2.heap.size]?=some (.cells #[x0,x1,x2,x3,x4,x5] 50 (0,0)):=by
    rw [hb.block _ (by rw [alloc_size];omega),alloc_at,if_pos rfl]
  have hb2:Below w2.heap.size w2 w3:=((Below.refl w2.heap.size w2).alloc (Nat.le_refl _) (.cells #[x0,x1,x2,x3,x4,x5] 50)).trans (hb.mono (by rw [alloc_size];omega))
  refine ⟨_,rfl,stms1 hg (by omega) hgr (srepE (es:=[tn.1]) hs ?_),hM.below hb2,hK.trans (KeepM.of_below (by omega) hb2)⟩
  exact kids1 hp (by omega) (by omega) hE3
theorem StRow.keep {lo n B:Nat} {w w':World} {v:Value} {ss:List Stm} (h:StRow lo n w v ss) (hk:KeepM B w w'):StRow lo n w' v ss:=by
  obtain ⟨xs,ho,hl,hr⟩:=h
  have hz:=hk.size
  refine ⟨xs,⟨ho.1,?_⟩,by omega,fun i s hs=>?_⟩
  · rcases ho.2 with hn | ⟨g,cap,cur,rfl,hb,hgg,rest⟩
    · exact .inl hn
    · exact .inr ⟨g,cap,cur,rfl,hb,hk.2 g _ _ _ hgg (by decide) (by decide) (by decide) (by decide),rest⟩
  · obtain ⟨a,b,u,hc,ha,hb,hg,hS⟩:=hr i s hs
    exact ⟨a,b,u,hc,ha,by omega,hg,hS.carry (Nat.le_refl _) (Nat.le_refl _) (hk.same35 a b) (hk.same45 a b)⟩
theorem StRow.drew {lo n:Nat} {w:World} {v:Value} {ss:List Stm} (h:StRow lo n w v ss):StRow lo n w.drew v ss:=h.keep ((KeepM.refl 0 w).drew)
theorem KeepM.grow {B:Nat} {w0 w w':World} {row:Option Nat} (h:KeepM B w0 w) (hB:B<=w0.heap.size) (hg:w.grownBy w' row) (hr:∀ k,row=some k->w0.heap.size<=k):KeepM B w0 w':=by
  have hz:=h.size
  have key:∀ k,k<w0.heap.size->w'.heap[k]?=w.heap[k]?:=fun k hk=>hg.block k (by omega) (fun e=>by have:=hr k e.symm;omega)
  refine ⟨⟨hg.os.trans h.1.os,hg.tape.trans h.1.tape,hg.output.trans h.1.output,by have:=hg.size;omega,fun k hk=>(key k (by omega)).trans (h.1.block k hk)⟩,fun k cs t fr hk a b c d=>?_⟩
  exact (key k (heap_lt hk)).trans (h.2 k cs t fr hk a b c d)
theorem stms_cells {lo B n:Nat} {w:World} {v:Value} {ss:List Stm} (h:Stms lo B w (fun v' s'=>SRep lo B w 13 n v' s') v ss) (hne:0<ss.length):
    ∃ g off cap news,v=.slice (some ⟨g,off,none⟩) ss.length cap/\news.length=ss.length*7/\(∀ j u,news[j]?=some u->w.cell? ((⟨g,off,none⟩:Addr).add j)=some u)/\(∀ u ∈ news,u.oneCell'=true)/\∀ i s,ss[i]?=some s->∃ u,Cells7 news i u/\SRep lo B w 13 n u s:=by
  obtain ⟨ao,cap,rfl,hl,hr⟩:=h
  obtain ⟨g,off,_,_,_,_,_,_,_,rfl,_⟩:=hr 0 ss[0] (by simp [hne])
  have at7:∀ i s,ss[i]?=some s->∃ c0 c1 c2 c3 c4 c5 c6,w.cell? ⟨g,off+i*7,none⟩=some c0/\w.cell? ⟨g,off+i*7+1,none⟩=some c1/\w.cell? ⟨g,off+i*7+2,none⟩=some c2/\w.cell? ⟨g,off+i*7+3,none⟩=some c3/\w.cell? ⟨g,off+i*7+4,none⟩=some c4/\w.cell? ⟨g,off+i*7+5,none⟩=some c5/\w.cell? ⟨g,off+i*7+6,none⟩=some c6/\SRep lo B w 13 n (.agg #[c0,c1,c2,c3,c4,c5,c6]) s:=fun i s hs=>by
    obtain ⟨g',off',c0,c1,c2,c3,c4,c5,c6,e,_,_,_,h0,h1,h2,h3,h4,h5,h6,hS⟩:=hr i s hs
    simp only [Option.some.injEq,Addr.mk.injEq] at e
    obtain ⟨rfl,rfl,_⟩:=e
    exact ⟨c0,c1,c2,c3,c4,c5,c6,h0,h1,h2,h3,h4,h5,h6,hS⟩
  have one7:∀ {c0 c1 c2 c3 c4 c5 c6:Value} {s:Stm},SRep lo B w 13 n (.agg #[c0,c1,c2,c3,c4,c5,c6]) s->c0.oneCell'=true/\c1.oneCell'=true/\c2.oneCell'=true/\c3.oneCell'=true/\c4.oneCell'=true/\c5.oneCell'=true/\c6.oneCell'=true:=fun {c0 c1 c2 c3 c4 c5 c6 s} hS=>by
    cases n with
    | zero=>exact hS.elim
    | succ n=>
      obtain ⟨_,_,_,_,_,_,_,_,_,hv,_⟩:=hS
      simp only [Value.agg.injEq,Array.mk.injEq,List.cons.injEq,and_true] at hv
      obtain ⟨rfl,rfl,rfl,rfl,rfl,rfl,rfl⟩:=hv
      simp [Value.oneCell']
  have cellAt:∀ j,j<ss.length*7->∃ u,w.cell? ⟨g,off+j,none⟩=some u/\u.oneCell'=true:=fun j hj=>by
    have hi:j / 7<ss.length:=by omega
    obtain ⟨c0,c1,c2,c3,c4,c5,c6,h0,h1,h2,h3,h4,h5,h6,hS⟩:=at7 (j / 7) ss[j / 7] (by simp [hi])
    obtain ⟨o0,o1,o2,o3,o4,o5,o6⟩:=one7 hS
    have hr7:j % 7<7:=Nat.mod_lt _ (by decide)
    have hj7:j=j / 7*7+j % 7:=by omega
    generalize j % 7=r at hr7 hj7
    generalize j / 7=q at hj7 h0 h1 h2 h3 h4 h5 h6
    subst hj7
    rw [<- Nat.add_assoc]
    match r,hr7 with
    | 0,_=>exact ⟨c0,h0,o0⟩
    | 1,_=>exact ⟨c1,h1,o1⟩
    | 2,_=>exact ⟨c2,h2,o2⟩
    | 3,_=>exact ⟨c3,h3,o3⟩
    | 4,_=>exact ⟨c4,h4,o4⟩
    | 5,_=>exact ⟨c5,h5,o5⟩
    | 6,_=>exact ⟨c6,h6,o6⟩
  refine ⟨g,off,cap,(List.range (ss.length*7)).map fun j=>(w.cell? ⟨g,off+j,none⟩).getD undef,rfl,by simp,?_,?_,?_⟩
  · intro j u hu
    by_cases hj:j<ss.length*7
    · rw [List.getElem?_map,List.getElem?_range hj,Option.map_some] at hu
      obtain ⟨x,hx,_⟩:=cellAt j hj
      rw [Lib.add_plain,hx]
      rw [hx] at hu
      simpa using hu
    · rw [List.getElem?_eq_none (by simp;omega)] at hu
      cases hu
  · intro u hu
    obtain ⟨j,hj,rfl⟩:=List.mem_map.1 hu
    obtain ⟨x,hx,hx1⟩:=cellAt j (List.mem_range.1 hj)
    rw [hx]
    exact hx1
  · intro i s hs
    obtain ⟨c0,c1,c2,c3,c4,c5,c6,h0,h1,h2,h3,h4,h5,h6,hS⟩:=at7 i s hs
    have hi:i<ss.length:=(List.getElem?_eq_some_iff.1 hs).1
    refine ⟨_,⟨c0,c1,c2,c3,c4,c5,c6,?_,?_,?_,?_,?_,?_,?_,rfl⟩,hS⟩
    all_goals
     rw [List.getElem?_map,List.getElem?_range (by omega),Option.map_some]
     try rw [<- Nat.add_assoc]
     first | rw [h0] | rw [h1] | rw [h2] | rw [h3] | rw [h4] | rw [h5] | rw [h6]
     rfl
theorem cells7_right {xs ys:List Value} {n i:Nat} {u:Value} (hl:xs.length=n*7) (h:Cells7 ys i u):Cells7 (xs++ys) (n+i) u:=by
  obtain ⟨c0,c1,c2,c3,c4,c5,c6,e0,e1,e2,e3,e4,e5,e6,rfl⟩:=h
  have key:∀ {j k:Nat} {c:Value},ys[j]?=some c->k=n*7+j->(xs++ys)[k]?=some c:=fun {j k c} h e=>by
    rw [List.getElem?_append_right (by omega),show k-xs.length=j by omega];exact h
  exact ⟨c0,c1,c2,c3,c4,c5,c6,key e0 (by omega),key e1 (by omega),key e2 (by omega),key e3 (by omega),key e4 (by omega),key e5 (by omega),key e6 (by omega),rfl⟩
theorem wpList_append_st {ops:Array Oper} {rest:List Oper} {o:Oper} {act:Act} {Q:Exit->Act->World->Prop} (w:World) (hgd:o.guard=none) (s x:Operand)
    (ho:o.op=.call { callee:=.builtin .append,args:=#[s,x],argTypes:=#[40,40] }) (lo a b n:Nat) (v v2:Value) (ss ss2:List Stm) (hs:act.eval s=v) (hx:act.eval x=v2)
    (hR:StRow lo n w v ss) (hS:Stms a b w (fun v' s'=>SRep a b w 13 n v' s') v2 ss2) (hlo:lo<=a) (hbw:b<=w.heap.size) (hga:∀ g,v.ownBlock=some g->g<a\/b<=g) (hne:0<ss2.length) (hlen:ss.length+ss2.length<=1000000)
    (h:∀ g cap w',StRow lo n w' (.slice (some ⟨g,0,none⟩) (ss++ss2).length cap) (ss++ss2)->w.grownBy w' v.ownBlock->wpList Tryz.prog ops Q rest (act.put o.dst (.slice (some ⟨g,0,none⟩) (ss++ss2).length cap)) w'):wpList Tryz.prog ops Q (o :: rest) act w:=by
  obtain ⟨xs,hown,hl,hr⟩:=hR
  obtain ⟨g2,off,cap2,news,rfl,hnl,hnews,hn1,hnr⟩:=stms_cells hS hne
  obtain ⟨i0,hi,hz0,hz1,hz2⟩:=info_parts infoStmt
  refine wpList_append_lies w hgd s x 40 ho lo 45 i0 _ 7 112 Tryz.underlying40 hi hz0 hz1 hz2 rfl (by decide) v ss.length xs hs hown ⟨g2,off,none⟩ ss2.length cap2 news hx hnl hnews hn1 hne (by unfold maxLen;omega) (by omega) hl w.heap.size rfl ?_
  intro g cap w' hown' hgrow hat hlt
  have hz:=hgrow.size
  have e:ss.length+ss2.length=(ss++ss2).length:=by simp
  rw [e] at hown' ⊢
  refine h g cap w' ⟨_,hown',by omega,fun i s hs=>?_⟩ hgrow
  have same:∀ {p q:Nat},q<=w.heap.size->(∀ g,v.ownBlock=some g->g<p\/q<=g)->∀ k,p<=k->k<q->w'.heap[k]?=w.heap[k]?:=fun {p q} hq hg k hp hk=>hgrow.block k (by omega) (fun e=>by rcases hg k e.symm with h | h <;> omega)
  have far:∀ {p q:Nat},q<=w.heap.size->(∀ g,v.ownBlock=some g->g<p\/q<=g)->∀ g',(Value.slice (some ⟨g,0,none⟩) (ss++ss2).length cap).ownBlock=some g'->g'<p\/q<=g':=fun {p q} hq hg g' e'=>by
    have:g=g':=by simpa [Value.ownBlock] using e'
    subst this
    rcases hat with h | h
    · exact hg g h
    · right;omega
  by_cases hlt:i<ss.length
  · rw [List.getElem?_append_left hlt] at hs
    obtain ⟨p,q,u,hc,hp,hq,hg,hS'⟩:=hr i s hs
    exact ⟨p,q,u,cells7_left hc,hp,by omega,far hq hg,hS'.carry (Nat.le_refl _) (Nat.le_refl _) (fun k cs fr hk1 hk2 hc=>(same hq hg k hk1 hk2).trans hc) (fun k cs fr hk1 hk2 hc=>(same hq hg k hk1 hk2).trans hc)⟩
  · rw [List.getElem?_append_right (by omega)] at hs
    obtain ⟨u,hc,hS'⟩:=hnr _ s hs
    have hc':=cells7_right hown.1 hc
    rw [show ss.length+(i-ss.length)=i by omega] at hc'
    exact ⟨a,b,u,hc',hlo,by omega,far hbw hga,hS'.carry (Nat.le_refl _) (Nat.le_refl _) (fun k cs fr hk1 hk2 hc=>(same hbw hga k hk1 hk2).trans hc) (fun k cs fr hk1 hk2 hc=>(same hbw hga k hk1 hk2).trans hc)⟩
theorem MakerAt.grow {B bm lo n:Nat} {E:Env} {ns:List UInt8} {w w':World} {v:Value} {ss:List Stm} (h:MakerAt B bm E ns w) (hR:StRow lo n w v ss) (hlo:B<=lo) (hg:w.grownBy w' v.ownBlock):MakerAt B bm E ns w':=by
  have hB:=h.base
  obtain ⟨xs,ho,_,_⟩:=hR
  obtain ⟨h1,nv,lv,sv,cv,h2,h3,h4,h5,h6,h7⟩:=h
  have hne:∀ k,v.ownBlock=some k->B<=k:=fun k hk=>by have:=(ho.lt k hk).1;omega
  have old:∀ {k:Nat} {cs:Array Value} {t:TypeId} {fr:Nat × Nat},w.heap[k]?=some (.cells cs t fr)->t≠45->w'.heap[k]?=some (.cells cs t fr):=fun {k cs t fr} hk ht=>(hg.block k (heap_lt hk) (fun e=>by
    rcases ho.2 with ⟨rfl,_⟩ | ⟨g,cap,cur,rfl,_,hgg,_⟩
    · cases e
    · cases e;rw [hgg] at hk;cases hk;exact ht rfl)).trans hk
  have kept:∀ {e:TypeId} {u:Value} {m:Nat} {ys:List Value},w.ownsRow B e 1 u m ys->e≠45->w'.ownsRow B e 1 u m ys:=fun {e u m ys} hu ht=>by
    refine ⟨hu.1,?_⟩
    rcases hu.2 with hn | ⟨g,cap,cur,rfl,hb,hgg,rest⟩
    · exact .inl hn
    · exact .inr ⟨g,cap,cur,rfl,hb,old hgg ht,rest⟩
  exact ⟨h1,nv,lv,sv,cv,old h2 (by decide),h3.on (fun k hk=>hg.block k (by omega) (fun e=>by have:=hne k e.symm;omega)),kept h4 (by decide),kept h5 (by decide),kept h6 (by decide),h7⟩
end Go.Proofs.YtlepckjmdjjolaaGreatDoor
