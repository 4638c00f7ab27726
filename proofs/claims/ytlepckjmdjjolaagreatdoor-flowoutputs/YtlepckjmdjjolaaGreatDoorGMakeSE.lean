/- Own texts laid together: MakeCut, MakeStmE. Conditions: as each theorem says. -/
import Derived.Test.YtlepckjmdjjolaaGreatDoorGMakeF
set_option maxHeartbeats 4000000
set_option maxRecDepth 100000
set_option linter.unusedVariables false
set_option linter.unusedSimpArgs false
namespace Go.Proofs.YtlepckjmdjjolaaGreatDoor
open Go.ChangeShapes Go.WideShapes Go.ChangeAt Go.RowKit
@[reducible] def cutOps:Array Oper:=#[{ dst:=some 144,op:=Op.move (Operand.tmp 0),type:=88,pos := "law.go:151",after:=#[],guard:=none },{ dst:=some 145,op:=Op.move (Operand.tmp 0),type:=88,pos := "law.go:151",after:=#[{ on:=38,ground:=Ground.gcOnly Departure.lateStores }],guard:=none },{ dst:=some 146,op:=Op.move (Operand.tmp 0),type:=88,pos := "law.go:151",after:=#[{ on:=41,ground:=Ground.gcOnly Departure.lateStores }],guard:=none },{ dst:=some 147,op:=Op.move (Operand.tmp 0),type:=88,pos := "law.go:151",after:=#[],guard:=none },{ dst:=some 148,op:=Op.nilCheck (Operand.tmp 147),type:=0,pos := "law.go:151",after:=#[{ on:=3,ground:=Ground.data }],guard:=none },{ dst:=some 149,op:=Op.fieldAddr 92 (Operand.tmp 148) 1,type:=0,pos := "law.go:151",after:=#[{ on:=4,ground:=Ground.data }],guard:=none },{ dst:=some 150,op:=Op.load 83 (Operand.tmp 149),type:=83,pos := "law.go:151",after:=#[{ on:=5,ground:=Ground.data }],guard:=none },{ dst:=some 151,op:=Op.move (Operand.tmp 0),type:=88,pos := "law.go:151",after:=#[],guard:=none },{ dst:=some 152,op:=Op.nilCheck (Operand.tmp 151),type:=0,pos := "law.go:151",after:=#[{ on:=7,ground:=Ground.data }],guard:=none },{ dst:=some 153,op:=Op.fieldAddr 92 (Operand.tmp 152) 1,type:=0,pos := "law.go:151",after:=#[{ on:=8,ground:=Ground.data }],guard:=none },{ dst:=some 154,op:=Op.load 83 (Operand.tmp 153),type:=83,pos := "law.go:151",after:=#[{ on:=9,ground:=Ground.data }],guard:=none },{ dst:=some 155,op:=Op.call { callee:=Callee.builtin Builtin.len,args:=#[Operand.tmp 154],argTypes:=#[83] },type:=3,pos := "law.go:151",after:=#[{ on:=10,ground:=Ground.data }],guard:=none },{ dst:=some 156,op:=Op.binOp BinOp.sub 3 (Operand.tmp 155) (Operand.const (Value.int IntKind.i64 1)) 3,type:=3,pos := "law.go:151",after:=#[{ on:=11,ground:=Ground.data }],guard:=none },{ dst:=some 157,op:=Op.slice 83 (Operand.tmp 150) none (some (Operand.tmp 156)) none,type:=83,pos := "law.go:151",after:=#[{ on:=6,ground:=Ground.data },{ on:=12,ground:=Ground.data }],guard:=none },{ dst:=some 158,op:=Op.move (Operand.tmp 0),type:=88,pos := "law.go:151",after:=#[],guard:=none },{ dst:=some 159,op:=Op.nilCheck (Operand.tmp 158),type:=0,pos := "law.go:151",after:=#[{ on:=14,ground:=Ground.data }],guard:=none },{ dst:=some 160,op:=Op.fieldAddr 92 (Operand.tmp 159) 2,type:=0,pos := "law.go:151",after:=#[{ on:=15,ground:=Ground.data }],guard:=none },{ dst:=some 161,op:=Op.load 89 (Operand.tmp 160),type:=89,pos := "law.go:151",after:=#[{ on:=16,ground:=Ground.data }],guard:=none },{ dst:=some 162,op:=Op.move (Operand.tmp 0),type:=88,pos := "law.go:151",after:=#[],guard:=none },{ dst:=some 163,op:=Op.nilCheck (Operand.tmp 162),type:=0,pos := "law.go:151",after:=#[{ on:=18,ground:=Ground.data }],guard:=none },{ dst:=some 164,op:=Op.fieldAddr 92 (Operand.tmp 163) 2,type:=0,pos := "law.go:151",after:=#[{ on:=19,ground:=Ground.data }],guard:=none },{ dst:=some 165,op:=Op.load 89 (Operand.tmp 164),type:=89,pos := "law.go:151",after:=#[{ on:=20,ground:=Ground.data }],guard:=none },{ dst:=some 166,op:=Op.call { callee:=Callee.builtin Builtin.len,args:=#[Operand.tmp 165],argTypes:=#[89] },type:=3,pos := "law.go:151",after:=#[{ on:=21,ground:=Ground.data }],guard:=none },{ dst:=some 167,op:=Op.binOp BinOp.sub 3 (Operand.tmp 166) (Operand.const (Value.int IntKind.i64 1)) 3,type:=3,pos := "law.go:151",after:=#[{ on:=22,ground:=Ground.data }],guard:=none },{ dst:=some 168,op:=Op.slice 89 (Operand.tmp 161) none (some (Operand.tmp 167)) none,type:=89,pos := "law.go:151",after:=#[{ on:=17,ground:=Ground.data },{ on:=23,ground:=Ground.data }],guard:=none },{ dst:=some 169,op:=Op.move (Operand.tmp 0),type:=88,pos := "law.go:151",after:=#[],guard:=none },{ dst:=some 170,op:=Op.nilCheck (Operand.tmp 169),type:=0,pos := "law.go:151",after:=#[{ on:=25,ground:=Ground.data }],guard:=none },{ dst:=some 171,op:=Op.fieldAddr 92 (Operand.tmp 170) 3,type:=0,pos := "law.go:151",after:=#[{ on:=26,ground:=Ground.data }],guard:=none },{ dst:=some 172,op:=Op.load 90 (Operand.tmp 171),type:=90,pos := "law.go:151",after:=#[{ on:=27,ground:=Ground.data }],guard:=none },{ dst:=some 173,op:=Op.move (Operand.tmp 0),type:=88,pos := "law.go:151",after:=#[],guard:=none },{ dst:=some 174,op:=Op.nilCheck (Operand.tmp 173),type:=0,pos := "law.go:151",after:=#[{ on:=29,ground:=Ground.data }],guard:=none },{ dst:=some 175,op:=Op.fieldAddr 92 (Operand.tmp 174) 3,type:=0,pos := "law.go:151",after:=#[{ on:=30,ground:=Ground.data }],guard:=none },{ dst:=some 176,op:=Op.load 90 (Operand.tmp 175),type:=90,pos := "law.go:151",after:=#[{ on:=31,ground:=Ground.data }],guard:=none },{ dst:=some 177,op:=Op.call { callee:=Callee.builtin Builtin.len,args:=#[Operand.tmp 176],argTypes:=#[90] },type:=3,pos := "law.go:151",after:=#[{ on:=32,ground:=Ground.data }],guard:=none },{ dst:=some 178,op:=Op.binOp BinOp.sub 3 (Operand.tmp 177) (Operand.const (Value.int IntKind.i64 1)) 3,type:=3,pos := "law.go:151",after:=#[{ on:=33,ground:=Ground.data }],guard:=none },{ dst:=some 179,op:=Op.slice 90 (Operand.tmp 172) none (some (Operand.tmp 178)) none,type:=90,pos := "law.go:151",after:=#[{ on:=28,ground:=Ground.data },{ on:=34,ground:=Ground.data }],guard:=none },{ dst:=some 180,op:=Op.nilCheck (Operand.tmp 144),type:=0,pos := "law.go:151",after:=#[{ on:=0,ground:=Ground.data },{ on:=0,ground:=Ground.phase },{ on:=1,ground:=Ground.textOnly Departure.lateStores },{ on:=2,ground:=Ground.textOnly Departure.lateStores },{ on:=3,ground:=Ground.phase },{ on:=4,ground:=Ground.phase },{ on:=5,ground:=Ground.phase },{ on:=6,ground:=Ground.phase },{ on:=7,ground:=Ground.phase },{ on:=8,ground:=Ground.phase },{ on:=9,ground:=Ground.phase },{ on:=10,ground:=Ground.phase },{ on:=11,ground:=Ground.phase },{ on:=12,ground:=Ground.phase },{ on:=13,ground:=Ground.phase },{ on:=14,ground:=Ground.textOnly Departure.lateStores },{ on:=15,ground:=Ground.textOnly Departure.lateStoresUnsure },{ on:=16,ground:=Ground.textOnly Departure.lateStoresUnsure },{ on:=17,ground:=Ground.phase },{ on:=18,ground:=Ground.textOnly Departure.lateStores },{ on:=19,ground:=Ground.textOnly Departure.lateStoresUnsure },{ on:=20,ground:=Ground.textOnly Departure.lateStoresUnsure },{ on:=21,ground:=Ground.phase },{ on:=22,ground:=Ground.textOnly Departure.lateStoresUnsure },{ on:=23,ground:=Ground.textOnly Departure.lateStores },{ on:=24,ground:=Ground.textOnly Departure.lateStoresUnsure },{ on:=25,ground:=Ground.textOnly Departure.lateStores },{ on:=26,ground:=Ground.textOnly Departure.lateStoresUnsure },{ on:=27,ground:=Ground.textOnly Departure.lateStoresUnsure },{ on:=28,ground:=Ground.phase },{ on:=29,ground:=Ground.textOnly Departure.lateStores },{ on:=30,ground:=Ground.textOnly Departure.lateStoresUnsure },{ on:=31,ground:=Ground.textOnly Departure.lateStoresUnsure },{ on:=32,ground:=Ground.phase },{ on:=33,ground:=Ground.textOnly Departure.lateStoresUnsure },{ on:=34,ground:=Ground.textOnly Departure.lateStores },{ on:=35,ground:=Ground.textOnly Departure.lateStoresUnsure }],guard:=none },{ dst:=some 181,op:=Op.fieldAddr 92 (Operand.tmp 180) 1,type:=0,pos := "law.go:151",after:=#[{ on:=36,ground:=Ground.data },{ on:=0,ground:=Ground.phase },{ on:=1,ground:=Ground.textOnly Departure.lateStores },{ on:=2,ground:=Ground.textOnly Departure.lateStores },{ on:=3,ground:=Ground.phase },{ on:=4,ground:=Ground.phase },{ on:=5,ground:=Ground.phase },{ on:=6,ground:=Ground.phase },{ on:=7,ground:=Ground.phase },{ on:=8,ground:=Ground.phase },{ on:=9,ground:=Ground.phase },{ on:=10,ground:=Ground.phase },{ on:=11,ground:=Ground.phase },{ on:=12,ground:=Ground.phase },{ on:=13,ground:=Ground.phase },{ on:=14,ground:=Ground.textOnly Departure.lateStores },{ on:=15,ground:=Ground.textOnly Departure.lateStoresUnsure },{ on:=16,ground:=Ground.textOnly Departure.lateStoresUnsure },{ on:=17,ground:=Ground.phase },{ on:=18,ground:=Ground.textOnly Departure.lateStores },{ on:=19,ground:=Ground.textOnly Departure.lateStoresUnsure },{ on:=20,ground:=Ground.textOnly Departure.lateStoresUnsure },{ on:=21,ground:=Ground.phase },{ on:=22,ground:=Ground.textOnly Departure.lateStoresUnsure },{ on:=23,ground:=Ground.textOnly Departure.lateStores },{ on:=24,ground:=Ground.textOnly Departure.lateStoresUnsure },{ on:=25,ground:=Ground.textOnly Departure.lateStores },{ on:=26,ground:=Ground.textOnly Departure.lateStoresUnsure },{ on:=27,ground:=Ground.textOnly Departure.lateStoresUnsure },{ on:=28,ground:=Ground.phase },{ on:=29,ground:=Ground.textOnly Departure.lateStores },{ on:=30,ground:=Ground.textOnly Departure.lateStoresUnsure },{ on:=31,ground:=Ground.textOnly Departure.lateStoresUnsure },{ on:=32,ground:=Ground.phase },{ on:=33,ground:=Ground.textOnly Departure.lateStoresUnsure },{ on:=34,ground:=Ground.textOnly Departure.lateStores },{ on:=35,ground:=Ground.textOnly Departure.lateStoresUnsure }],guard:=none },{ dst:=none,op:=Op.store 83 (Operand.tmp 181) (Operand.tmp 157),type:=0,pos := "law.go:151",after:=#[{ on:=37,ground:=Ground.data },{ on:=13,ground:=Ground.data },{ on:=0,ground:=Ground.phase },{ on:=1,ground:=Ground.textOnly Departure.lateStores },{ on:=2,ground:=Ground.textOnly Departure.lateStores },{ on:=3,ground:=Ground.phase },{ on:=4,ground:=Ground.phase },{ on:=5,ground:=Ground.phase },{ on:=6,ground:=Ground.phase },{ on:=7,ground:=Ground.phase },{ on:=8,ground:=Ground.phase },{ on:=9,ground:=Ground.phase },{ on:=10,ground:=Ground.phase },{ on:=11,ground:=Ground.phase },{ on:=12,ground:=Ground.phase },{ on:=13,ground:=Ground.phase },{ on:=14,ground:=Ground.textOnly Departure.lateStores },{ on:=15,ground:=Ground.textOnly Departure.lateStoresUnsure },{ on:=16,ground:=Ground.textOnly Departure.lateStoresUnsure },{ on:=17,ground:=Ground.phase },{ on:=18,ground:=Ground.textOnly Departure.lateStores },{ on:=19,ground:=Ground.textOnly Departure.lateStoresUnsure },{ on:=20,ground:=Ground.textOnly Departure.lateStoresUnsure },{ on:=21,ground:=Ground.phase },{ on:=22,ground:=Ground.textOnly Departure.lateStoresUnsure },{ on:=23,ground:=Ground.textOnly Departure.lateStores },{ on:=24,ground:=Ground.textOnly Departure.lateStoresUnsure },{ on:=25,ground:=Ground.textOnly Departure.lateStores },{ on:=26,ground:=Ground.textOnly Departure.lateStoresUnsure },{ on:=27,ground:=Ground.textOnly Departure.lateStoresUnsure },{ on:=28,ground:=Ground.phase },{ on:=29,ground:=Ground.textOnly Departure.lateStores },{ on:=30,ground:=Ground.textOnly Departure.lateStoresUnsure },{ on:=31,ground:=Ground.textOnly Departure.lateStoresUnsure },{ on:=32,ground:=Ground.phase },{ on:=33,ground:=Ground.textOnly Departure.lateStoresUnsure },{ on:=34,ground:=Ground.textOnly Departure.lateStores },{ on:=35,ground:=Ground.textOnly Departure.lateStoresUnsure }],guard:=none },{ dst:=some 182,op:=Op.nilCheck (Operand.tmp 145),type:=0,pos := "law.go:151",after:=#[{ on:=1,ground:=Ground.data },{ on:=0,ground:=Ground.phase },{ on:=1,ground:=Ground.phase },{ on:=2,ground:=Ground.textOnly Departure.lateStores },{ on:=3,ground:=Ground.phase },{ on:=4,ground:=Ground.phase },{ on:=5,ground:=Ground.phase },{ on:=6,ground:=Ground.phase },{ on:=7,ground:=Ground.phase },{ on:=8,ground:=Ground.phase },{ on:=9,ground:=Ground.phase },{ on:=10,ground:=Ground.phase },{ on:=11,ground:=Ground.phase },{ on:=12,ground:=Ground.phase },{ on:=13,ground:=Ground.phase },{ on:=14,ground:=Ground.phase },{ on:=15,ground:=Ground.phase },{ on:=16,ground:=Ground.phase },{ on:=17,ground:=Ground.phase },{ on:=18,ground:=Ground.phase },{ on:=19,ground:=Ground.phase },{ on:=20,ground:=Ground.phase },{ on:=21,ground:=Ground.phase },{ on:=22,ground:=Ground.phase },{ on:=23,ground:=Ground.phase },{ on:=24,ground:=Ground.phase },{ on:=25,ground:=Ground.textOnly Departure.lateStores },{ on:=26,ground:=Ground.textOnly Departure.lateStoresUnsure },{ on:=27,ground:=Ground.textOnly Departure.lateStoresUnsure },{ on:=28,ground:=Ground.phase },{ on:=29,ground:=Ground.textOnly Departure.lateStores },{ on:=30,ground:=Ground.textOnly Departure.lateStoresUnsure },{ on:=31,ground:=Ground.textOnly Departure.lateStoresUnsure },{ on:=32,ground:=Ground.phase },{ on:=33,ground:=Ground.textOnly Departure.lateStoresUnsure },{ on:=34,ground:=Ground.textOnly Departure.lateStores },{ on:=35,ground:=Ground.textOnly Departure.lateStoresUnsure },{ on:=36,ground:=Ground.phase },{ on:=37,ground:=Ground.phase },{ on:=38,ground:=Ground.phase }],guard:=none },{ dst:=some 183,op:=Op.fieldAddr 92 (Operand.tmp 182) 2,type:=0,pos := "law.go:151",after:=#[{ on:=39,ground:=Ground.data },{ on:=0,ground:=Ground.phase },{ on:=1,ground:=Ground.phase },{ on:=2,ground:=Ground.textOnly Departure.lateStores },{ on:=3,ground:=Ground.phase },{ on:=4,ground:=Ground.phase },{ on:=5,ground:=Ground.phase },{ on:=6,ground:=Ground.phase },{ on:=7,ground:=Ground.phase },{ on:=8,ground:=Ground.phase },{ on:=9,ground:=Ground.phase },{ on:=10,ground:=Ground.phase },{ on:=11,ground:=Ground.phase },{ on:=12,ground:=Ground.phase },{ on:=13,ground:=Ground.phase },{ on:=14,ground:=Ground.phase },{ on:=15,ground:=Ground.phase },{ on:=16,ground:=Ground.phase },{ on:=17,ground:=Ground.phase },{ on:=18,ground:=Ground.phase },{ on:=19,ground:=Ground.phase },{ on:=20,ground:=Ground.phase },{ on:=21,ground:=Ground.phase },{ on:=22,ground:=Ground.phase },{ on:=23,ground:=Ground.phase },{ on:=24,ground:=Ground.phase },{ on:=25,ground:=Ground.textOnly Departure.lateStores },{ on:=26,ground:=Ground.textOnly Departure.lateStoresUnsure },{ on:=27,ground:=Ground.textOnly Departure.lateStoresUnsure },{ on:=28,ground:=Ground.phase },{ on:=29,ground:=Ground.textOnly Departure.lateStores },{ on:=30,ground:=Ground.textOnly Departure.lateStoresUnsure },{ on:=31,ground:=Ground.textOnly Departure.lateStoresUnsure },{ on:=32,ground:=Ground.phase },{ on:=33,ground:=Ground.textOnly Departure.lateStoresUnsure },{ on:=34,ground:=Ground.textOnly Departure.lateStores },{ on:=35,ground:=Ground.textOnly Departure.lateStoresUnsure },{ on:=36,ground:=Ground.phase },{ on:=37,ground:=Ground.phase },{ on:=38,ground:=Ground.phase }],guard:=none },{ dst:=none,op:=Op.store 89 (Operand.tmp 183) (Operand.tmp 168),type:=0,pos := "law.go:151",after:=#[{ on:=40,ground:=Ground.data },{ on:=24,ground:=Ground.data },{ on:=38,ground:=Ground.chain },{ on:=0,ground:=Ground.phase },{ on:=1,ground:=Ground.phase },{ on:=2,ground:=Ground.textOnly Departure.lateStores },{ on:=3,ground:=Ground.phase },{ on:=4,ground:=Ground.phase },{ on:=5,ground:=Ground.phase },{ on:=6,ground:=Ground.phase },{ on:=7,ground:=Ground.phase },{ on:=8,ground:=Ground.phase },{ on:=9,ground:=Ground.phase },{ on:=10,ground:=Ground.phase },{ on:=11,ground:=Ground.phase },{ on:=12,ground:=Ground.phase },{ on:=13,ground:=Ground.phase },{ on:=14,ground:=Ground.phase },{ on:=15,ground:=Ground.phase },{ on:=16,ground:=Ground.phase },{ on:=17,ground:=Ground.phase },{ on:=18,ground:=Ground.phase },{ on:=19,ground:=Ground.phase },{ on:=20,ground:=Ground.phase },{ on:=21,ground:=Ground.phase },{ on:=22,ground:=Ground.phase },{ on:=23,ground:=Ground.phase },{ on:=24,ground:=Ground.phase },{ on:=25,ground:=Ground.textOnly Departure.lateStores },{ on:=26,ground:=Ground.textOnly Departure.lateStoresUnsure },{ on:=27,ground:=Ground.textOnly Departure.lateStoresUnsure },{ on:=28,ground:=Ground.phase },{ on:=29,ground:=Ground.textOnly Departure.lateStores },{ on:=30,ground:=Ground.textOnly Departure.lateStoresUnsure },{ on:=31,ground:=Ground.textOnly Departure.lateStoresUnsure },{ on:=32,ground:=Ground.phase },{ on:=33,ground:=Ground.textOnly Departure.lateStoresUnsure },{ on:=34,ground:=Ground.textOnly Departure.lateStores },{ on:=35,ground:=Ground.textOnly Departure.lateStoresUnsure },{ on:=36,ground:=Ground.phase },{ on:=37,ground:=Ground.phase },{ on:=38,ground:=Ground.phase }],guard:=none },{ dst:=some 184,op:=Op.nilCheck (Operand.tmp 146),type:=0,pos := "law.go:151",after:=#[{ on:=2,ground:=Ground.data },{ on:=0,ground:=Ground.phase },{ on:=1,ground:=Ground.phase },{ on:=2,ground:=Ground.phase },{ on:=3,ground:=Ground.phase },{ on:=4,ground:=Ground.phase },{ on:=5,ground:=Ground.phase },{ on:=6,ground:=Ground.phase },{ on:=7,ground:=Ground.phase },{ on:=8,ground:=Ground.phase },{ on:=9,ground:=Ground.phase },{ on:=10,ground:=Ground.phase },{ on:=11,ground:=Ground.phase },{ on:=12,ground:=Ground.phase },{ on:=13,ground:=Ground.phase },{ on:=14,ground:=Ground.phase },{ on:=15,ground:=Ground.phase },{ on:=16,ground:=Ground.phase },{ on:=17,ground:=Ground.phase },{ on:=18,ground:=Ground.phase },{ on:=19,ground:=Ground.phase },{ on:=20,ground:=Ground.phase },{ on:=21,ground:=Ground.phase },{ on:=22,ground:=Ground.phase },{ on:=23,ground:=Ground.phase },{ on:=24,ground:=Ground.phase },{ on:=25,ground:=Ground.phase },{ on:=26,ground:=Ground.phase },{ on:=27,ground:=Ground.phase },{ on:=28,ground:=Ground.phase },{ on:=29,ground:=Ground.phase },{ on:=30,ground:=Ground.phase },{ on:=31,ground:=Ground.phase },{ on:=32,ground:=Ground.phase },{ on:=33,ground:=Ground.phase },{ on:=34,ground:=Ground.phase },{ on:=35,ground:=Ground.phase },{ on:=36,ground:=Ground.phase },{ on:=37,ground:=Ground.phase },{ on:=38,ground:=Ground.phase },{ on:=39,ground:=Ground.phase },{ on:=40,ground:=Ground.phase },{ on:=41,ground:=Ground.phase }],guard:=none },{ dst:=some 185,op:=Op.fieldAddr 92 (Operand.tmp 184) 3,type:=0,pos := "law.go:151",after:=#[{ on:=42,ground:=Ground.data },{ on:=0,ground:=Ground.phase },{ on:=1,ground:=Ground.phase },{ on:=2,ground:=Ground.phase },{ on:=3,ground:=Ground.phase },{ on:=4,ground:=Ground.phase },{ on:=5,ground:=Ground.phase },{ on:=6,ground:=Ground.phase },{ on:=7,ground:=Ground.phase },{ on:=8,ground:=Ground.phase },{ on:=9,ground:=Ground.phase },{ on:=10,ground:=Ground.phase },{ on:=11,ground:=Ground.phase },{ on:=12,ground:=Ground.phase },{ on:=13,ground:=Ground.phase },{ on:=14,ground:=Ground.phase },{ on:=15,ground:=Ground.phase },{ on:=16,ground:=Ground.phase },{ on:=17,ground:=Ground.phase },{ on:=18,ground:=Ground.phase },{ on:=19,ground:=Ground.phase },{ on:=20,ground:=Ground.phase },{ on:=21,ground:=Ground.phase },{ on:=22,ground:=Ground.phase },{ on:=23,ground:=Ground.phase },{ on:=24,ground:=Ground.phase },{ on:=25,ground:=Ground.phase },{ on:=26,ground:=Ground.phase },{ on:=27,ground:=Ground.phase },{ on:=28,ground:=Ground.phase },{ on:=29,ground:=Ground.phase },{ on:=30,ground:=Ground.phase },{ on:=31,ground:=Ground.phase },{ on:=32,ground:=Ground.phase },{ on:=33,ground:=Ground.phase },{ on:=34,ground:=Ground.phase },{ on:=35,ground:=Ground.phase },{ on:=36,ground:=Ground.phase },{ on:=37,ground:=Ground.phase },{ on:=38,ground:=Ground.phase },{ on:=39,ground:=Ground.phase },{ on:=40,ground:=Ground.phase },{ on:=41,ground:=Ground.phase }],guard:=none },{ dst:=none,op:=Op.store 90 (Operand.tmp 185) (Operand.tmp 179),type:=0,pos := "law.go:151",after:=#[{ on:=43,ground:=Ground.data },{ on:=35,ground:=Ground.data },{ on:=41,ground:=Ground.chain },{ on:=0,ground:=Ground.phase },{ on:=1,ground:=Ground.phase },{ on:=2,ground:=Ground.phase },{ on:=3,ground:=Ground.phase },{ on:=4,ground:=Ground.phase },{ on:=5,ground:=Ground.phase },{ on:=6,ground:=Ground.phase },{ on:=7,ground:=Ground.phase },{ on:=8,ground:=Ground.phase },{ on:=9,ground:=Ground.phase },{ on:=10,ground:=Ground.phase },{ on:=11,ground:=Ground.phase },{ on:=12,ground:=Ground.phase },{ on:=13,ground:=Ground.phase },{ on:=14,ground:=Ground.phase },{ on:=15,ground:=Ground.phase },{ on:=16,ground:=Ground.phase },{ on:=17,ground:=Ground.phase },{ on:=18,ground:=Ground.phase },{ on:=19,ground:=Ground.phase },{ on:=20,ground:=Ground.phase },{ on:=21,ground:=Ground.phase },{ on:=22,ground:=Ground.phase },{ on:=23,ground:=Ground.phase },{ on:=24,ground:=Ground.phase },{ on:=25,ground:=Ground.phase },{ on:=26,ground:=Ground.phase },{ on:=27,ground:=Ground.phase },{ on:=28,ground:=Ground.phase },{ on:=29,ground:=Ground.phase },{ on:=30,ground:=Ground.phase },{ on:=31,ground:=Ground.phase },{ on:=32,ground:=Ground.phase },{ on:=33,ground:=Ground.phase },{ on:=34,ground:=Ground.phase },{ on:=35,ground:=Ground.phase },{ on:=36,ground:=Ground.phase },{ on:=37,ground:=Ground.phase },{ on:=38,ground:=Ground.phase },{ on:=39,ground:=Ground.phase },{ on:=40,ground:=Ground.phase },{ on:=41,ground:=Ground.phase }],guard:=none }]
structure CC where
  bm:Nat
  w0:World
  nv:Value
  la:Option Addr
  lc:Nat
  sa:Option Addr
  sc:Nat
  ca:Option Addr
  cc:Nat
  m:Nat
  n:Nat
  held:Bool
  thread:Int
  deep:Int
def cutV (X:CC):Nat->Value
  | 0=>.pointer (some ⟨X.bm,0,none⟩)
  | 1=>.pointer (some ⟨X.bm,0,none⟩)
  | 2=>.pointer (some ⟨X.bm,0,none⟩)
  | 3=>.pointer (some ⟨X.bm,0,none⟩)
  | 4=>.pointer (some ⟨X.bm,0,none⟩)
  | 5=>.pointer (some ⟨X.bm,1,none⟩)
  | 6=>.slice X.la X.m X.lc
  | 7=>.pointer (some ⟨X.bm,0,none⟩)
  | 8=>.pointer (some ⟨X.bm,0,none⟩)
  | 9=>.pointer (some ⟨X.bm,1,none⟩)
  | 10=>.slice X.la X.m X.lc
  | 11=>.int .i64 (X.m:Int)
  | 12=>.int .i64 (X.n:Int)
  | 13=>.slice X.la X.n X.lc
  | 14=>.pointer (some ⟨X.bm,0,none⟩)
  | 15=>.pointer (some ⟨X.bm,0,none⟩)
  | 16=>.pointer (some ⟨X.bm,2,none⟩)
  | 17=>.slice X.sa X.m X.sc
  | 18=>.pointer (some ⟨X.bm,0,none⟩)
  | 19=>.pointer (some ⟨X.bm,0,none⟩)
  | 20=>.pointer (some ⟨X.bm,2,none⟩)
  | 21=>.slice X.sa X.m X.sc
  | 22=>.int .i64 (X.m:Int)
  | 23=>.int .i64 (X.n:Int)
  | 24=>.slice X.sa X.n X.sc
  | 25=>.pointer (some ⟨X.bm,0,none⟩)
  | 26=>.pointer (some ⟨X.bm,0,none⟩)
  | 27=>.pointer (some ⟨X.bm,3,none⟩)
  | 28=>.slice X.ca X.m X.cc
  | 29=>.pointer (some ⟨X.bm,0,none⟩)
  | 30=>.pointer (some ⟨X.bm,0,none⟩)
  | 31=>.pointer (some ⟨X.bm,3,none⟩)
  | 32=>.slice X.ca X.m X.cc
  | 33=>.int .i64 (X.m:Int)
  | 34=>.int .i64 (X.n:Int)
  | 35=>.slice X.ca X.n X.cc
  | 36=>.pointer (some ⟨X.bm,0,none⟩)
  | 37=>.pointer (some ⟨X.bm,1,none⟩)
  | 39=>.pointer (some ⟨X.bm,0,none⟩)
  | 40=>.pointer (some ⟨X.bm,2,none⟩)
  | 42=>.pointer (some ⟨X.bm,0,none⟩)
  | 43=>.pointer (some ⟨X.bm,3,none⟩)
  | _=>undef
theorem writeAll_cut (V:Nat->Value) (t:Array Value):writeAll cutOps V t=((((((((((((((((((((((((((((((((((((((((((t.setIfInBounds 144 (V 0)).setIfInBounds 145 (V 1)).setIfInBounds 146 (V 2)).setIfInBounds 147 (V 3)).setIfInBounds 148 (V 4)).setIfInBounds 149 (V 5)).setIfInBounds 150 (V 6)).setIfInBounds 151 (V 7)).setIfInBounds 152 (V 8)).setIfInBounds 153 (V 9)).setIfInBounds 154 (V 10)).setIfInBounds 155 (V 11)).setIfInBounds 156 (V 12)).setIfInBounds 157 (V 13)).setIfInBounds 158 (V 14)).setIfInBounds 159 (V 15)).setIfInBounds 160 (V 16)).setIfInBounds 161 (V 17)).setIfInBounds 162 (V 18)).setIfInBounds 163 (V 19)).setIfInBounds 164 (V 20)).setIfInBounds 165 (V 21)).setIfInBounds 166 (V 22)).setIfInBounds 167 (V 23)).setIfInBounds 168 (V 24)).setIfInBounds 169 (V 25)).setIfInBounds 170 (V 26)).setIfInBounds 171 (V 27)).setIfInBounds 172 (V 28)).setIfInBounds 173 (V 29)).setIfInBounds 174 (V 30)).setIfInBounds 175 (V 31)).setIfInBounds 176 (V 32)).setIfInBounds 177 (V 33)).setIfInBounds 178 (V 34)).setIfInBounds 179 (V 35)).setIfInBounds 180 (V 36)).setIfInBounds 181 (V 37)).setIfInBounds 182 (V 39)).setIfInBounds 183 (V 40)).setIfInBounds 184 (V 42)).setIfInBounds 185 (V 43)):=by kernel_rfl
def CInv (X:CC) (l38 l41 l44:Bool) (w:World):Prop:=
  X.w0.grownBy w (some X.bm)/\w.heap[X.bm]?=some (.cells #[X.nv,pick3 l38 (.slice X.la X.n X.lc) (.slice X.la X.m X.lc),pick3 l41 (.slice X.sa X.n X.sc) (.slice X.sa X.m X.sc),pick3 l44 (.slice X.ca X.n X.cc) (.slice X.ca X.m X.cc),.bool X.held,.int .i64 X.thread,.int .i64 X.deep] 92 (0,0))
def cutInv (X:CC) (L:Nat->Bool) (g:Unit) (w:World):Prop:=CInv X (L 38) (L 41) (L 44) w
theorem CInv.put {X:CC} {l38 l41 l44 m38 m41 m44:Bool} {w:World} (h:CInv X l38 l41 l44 w) (j:Nat) (u:Value) (hc:(#[X.nv,pick3 l38 (.slice X.la X.n X.lc) (.slice X.la X.m X.lc),pick3 l41 (.slice X.sa X.n X.sc) (.slice X.sa X.m X.sc),pick3 l44 (.slice X.ca X.n X.cc) (.slice X.ca X.m X.cc),.bool X.held,.int .i64 X.thread,.int .i64 X.deep]:Array Value).setIfInBounds j u = #[X.nv,pick3 m38 (.slice X.la X.n X.lc) (.slice X.la X.m X.lc),pick3 m41 (.slice X.sa X.n X.sc) (.slice X.sa X.m X.sc),pick3 m44 (.slice X.ca X.n X.cc) (.slice X.ca X.m X.cc),.bool X.held,.int .i64 X.thread,.int .i64 X.deep]):
    CInv X m38 m41 m44 (w.setCell ⟨X.bm,j,none⟩ u):=⟨grow_set h.1 j u,by rw [<- hc];exact set_heap h.2 j u⟩
theorem cut_region (X:CC) {Q:Exit->Act->World->Prop} {a0:Act} {W:World} (h0:CInv X false false false W) (e0:a0.tmps.getD 0 undef=.pointer (some ⟨X.bm,0,none⟩)) (hz:a0.tmps.size=309) (hm1:1<=X.m) (hm2:X.m<=101) (hmn:(X.m:Int)-1=(X.n:Int)) (q1:X.m<=X.lc) (q2:X.m<=X.sc) (q3:X.m<=X.cc)
    (hend:∀ w,CInv X true true true w->Q .normal ⟨writeAll cutOps (cutV X) a0.tmps,a0.defers⟩ w):(Code.region 22 cutOps true).wp Tryz.prog Q a0 W:=by
  refine wp_region_slots (by kernel_rfl) (by kernel_rfl) (by kernel_rfl) (by kernel_rfl) (fun _=>cutV X) (cutInv X) () ⟨grow_drew h0.1,h0.2⟩ ?_ (fun L g w hL hI=>hend w (by unfold cutInv at hI;rwa [hL 38 (by decide),hL 41 (by decide),hL 44 (by decide)] at hI))
  · intro L g a wr i op hop hLi hpre hC hI hS K hK
    have s0:=(hS.old2 0 (by kernel_rfl)).trans e0
    have hb:=hI.2
    have b0:(0:Int)<=(X.n:Int):=by omega
    have b1:(X.n:Int)<=(X.lc:Int):=by omega
    have b2:(X.n:Int)<=(X.sc:Int):=by omega
    have b3:(X.n:Int)<=(X.cc:Int):=by omega
    have hw:IntKind.i64.wrap (X.n:Int)=(X.n:Int):=by rw [IntKind.wrap_i64];omega
    match i with
    | 0=>
      simp only [cutOps,List.getElem?_toArray,List.getElem?_cons_zero,List.getElem?_cons_succ,Option.some.injEq] at hop
      subst hop
      go_simp
      exact hK _ _ ⟨(),fun _=>rfl,fun _ _ _=>rfl,hI⟩
    | 1=>
      simp only [cutOps,List.getElem?_toArray,List.getElem?_cons_zero,List.getElem?_cons_succ,Option.some.injEq] at hop
      subst hop
      go_simp
      exact hK _ _ ⟨(),fun _=>rfl,fun _ _ _=>rfl,hI⟩
    | 2=>
      simp only [cutOps,List.getElem?_toArray,List.getElem?_cons_zero,List.getElem?_cons_succ,Option.some.injEq] at hop
      subst hop
      go_simp
      exact hK _ _ ⟨(),fun _=>rfl,fun _ _ _=>rfl,hI⟩
    | 3=>
      simp only [cutOps,List.getElem?_toArray,List.getElem?_cons_zero,List.getElem?_cons_succ,Option.some.injEq] at hop
      subst hop
      go_simp
      exact hK _ _ ⟨(),fun _=>rfl,fun _ _ _=>rfl,hI⟩
    | 4=>
      simp only [cutOps,List.getElem?_toArray,List.getElem?_cons_zero,List.getElem?_cons_succ,Option.some.injEq] at hop
      subst hop
      have n3:=hS.new2 3 147 (by kernel_rfl) (pre_at hpre 3 (by kernel_rfl)) (by rw [hz];decide)
      simp only [cutV] at n3
      go_simp
      exact hK _ _ ⟨(),fun _=>rfl,fun _ _ _=>rfl,hI⟩
    | 5=>
      simp only [cutOps,List.getElem?_toArray,List.getElem?_cons_zero,List.getElem?_cons_succ,Option.some.injEq] at hop
      subst hop
      have n4:=hS.new2 4 148 (by kernel_rfl) (pre_at hpre 4 (by kernel_rfl)) (by rw [hz];decide)
      simp only [cutV] at n4
      go_simp
      exact hK _ _ ⟨(),fun _=>rfl,fun _ _ _=>rfl,hI⟩
    | 6=>
      simp only [cutOps,List.getElem?_toArray,List.getElem?_cons_zero,List.getElem?_cons_succ,Option.some.injEq] at hop
      subst hop
      have n5:=hS.new2 5 149 (by kernel_rfl) (pre_at hpre 5 (by kernel_rfl)) (by rw [hz];decide)
      simp only [cutV] at n5
      have hno:L 38=false:=by cases h:L 38 with | false=>rfl | true=>exact absurd (hC.at 38 6 (by kernel_rfl) h) (by simp [hLi])
      have hcell:=(seven_cells hb).2.1
      simp only [pick3,hno,Bool.false_eq_true,if_false] at hcell
      go_simp
      exact hK _ _ ⟨(),fun _=>rfl,fun _ _ _=>rfl,hI⟩
    | 7=>
      simp only [cutOps,List.getElem?_toArray,List.getElem?_cons_zero,List.getElem?_cons_succ,Option.some.injEq] at hop
      subst hop
      go_simp
      exact hK _ _ ⟨(),fun _=>rfl,fun _ _ _=>rfl,hI⟩
    | 8=>
      simp only [cutOps,List.getElem?_toArray,List.getElem?_cons_zero,List.getElem?_cons_succ,Option.some.injEq] at hop
      subst hop
      have n7:=hS.new2 7 151 (by kernel_rfl) (pre_at hpre 7 (by kernel_rfl)) (by rw [hz];decide)
      simp only [cutV] at n7
      go_simp
      exact hK _ _ ⟨(),fun _=>rfl,fun _ _ _=>rfl,hI⟩
    | 9=>
      simp only [cutOps,List.getElem?_toArray,List.getElem?_cons_zero,List.getElem?_cons_succ,Option.some.injEq] at hop
      subst hop
      have n8:=hS.new2 8 152 (by kernel_rfl) (pre_at hpre 8 (by kernel_rfl)) (by rw [hz];decide)
      simp only [cutV] at n8
      go_simp
      exact hK _ _ ⟨(),fun _=>rfl,fun _ _ _=>rfl,hI⟩
    | 10=>
      simp only [cutOps,List.getElem?_toArray,List.getElem?_cons_zero,List.getElem?_cons_succ,Option.some.injEq] at hop
      subst hop
      have n9:=hS.new2 9 153 (by kernel_rfl) (pre_at hpre 9 (by kernel_rfl)) (by rw [hz];decide)
      simp only [cutV] at n9
      have hno:L 38=false:=by cases h:L 38 with | false=>rfl | true=>exact absurd (hC.at 38 10 (by kernel_rfl) h) (by simp [hLi])
      have hcell:=(seven_cells hb).2.1
      simp only [pick3,hno,Bool.false_eq_true,if_false] at hcell
      go_simp
      exact hK _ _ ⟨(),fun _=>rfl,fun _ _ _=>rfl,hI⟩
    | 11=>
      simp only [cutOps,List.getElem?_toArray,List.getElem?_cons_zero,List.getElem?_cons_succ,Option.some.injEq] at hop
      subst hop
      have n10:=hS.new2 10 154 (by kernel_rfl) (pre_at hpre 10 (by kernel_rfl)) (by rw [hz];decide)
      simp only [cutV] at n10
      go_simp
      exact hK _ _ ⟨(),fun _=>rfl,fun _ _ _=>rfl,hI⟩
    | 12=>
      simp only [cutOps,List.getElem?_toArray,List.getElem?_cons_zero,List.getElem?_cons_succ,Option.some.injEq] at hop
      subst hop
      have n11:=hS.new2 11 155 (by kernel_rfl) (pre_at hpre 11 (by kernel_rfl)) (by rw [hz];decide)
      simp only [cutV] at n11
      go_simp
      exact hK _ _ ⟨(),fun _=>rfl,fun _ _ _=>rfl,hI⟩
    | 13=>
      simp only [cutOps,List.getElem?_toArray,List.getElem?_cons_zero,List.getElem?_cons_succ,Option.some.injEq] at hop
      subst hop
      have n6:=hS.new2 6 150 (by kernel_rfl) (pre_at hpre 6 (by kernel_rfl)) (by rw [hz];decide)
      simp only [cutV] at n6
      have n12:=hS.new2 12 156 (by kernel_rfl) (pre_at hpre 12 (by kernel_rfl)) (by rw [hz];decide)
      simp only [cutV] at n12
      go_simp
      exact hK _ _ ⟨(),fun _=>rfl,fun _ _ _=>rfl,hI⟩
    | 14=>
      simp only [cutOps,List.getElem?_toArray,List.getElem?_cons_zero,List.getElem?_cons_succ,Option.some.injEq] at hop
      subst hop
      go_simp
      exact hK _ _ ⟨(),fun _=>rfl,fun _ _ _=>rfl,hI⟩
    | 15=>
      simp only [cutOps,List.getElem?_toArray,List.getElem?_cons_zero,List.getElem?_cons_succ,Option.some.injEq] at hop
      subst hop
      have n14:=hS.new2 14 158 (by kernel_rfl) (pre_at hpre 14 (by kernel_rfl)) (by rw [hz];decide)
      simp only [cutV] at n14
      go_simp
      exact hK _ _ ⟨(),fun _=>rfl,fun _ _ _=>rfl,hI⟩
    | 16=>
      simp only [cutOps,List.getElem?_toArray,List.getElem?_cons_zero,List.getElem?_cons_succ,Option.some.injEq] at hop
      subst hop
      have n15:=hS.new2 15 159 (by kernel_rfl) (pre_at hpre 15 (by kernel_rfl)) (by rw [hz];decide)
      simp only [cutV] at n15
      go_simp
      exact hK _ _ ⟨(),fun _=>rfl,fun _ _ _=>rfl,hI⟩
    | 17=>
      simp only [cutOps,List.getElem?_toArray,List.getElem?_cons_zero,List.getElem?_cons_succ,Option.some.injEq] at hop
      subst hop
      have n16:=hS.new2 16 160 (by kernel_rfl) (pre_at hpre 16 (by kernel_rfl)) (by rw [hz];decide)
      simp only [cutV] at n16
      have hno:L 41=false:=by cases h:L 41 with | false=>rfl | true=>exact absurd (hC.at 41 17 (by kernel_rfl) h) (by simp [hLi])
      have hcell:=(seven_cells hb).2.2.1
      simp only [pick3,hno,Bool.false_eq_true,if_false] at hcell
      go_simp
      exact hK _ _ ⟨(),fun _=>rfl,fun _ _ _=>rfl,hI⟩
    | 18=>
      simp only [cutOps,List.getElem?_toArray,List.getElem?_cons_zero,List.getElem?_cons_succ,Option.some.injEq] at hop
      subst hop
      go_simp
      exact hK _ _ ⟨(),fun _=>rfl,fun _ _ _=>rfl,hI⟩
    | 19=>
      simp only [cutOps,List.getElem?_toArray,List.getElem?_cons_zero,List.getElem?_cons_succ,Option.some.injEq] at hop
      subst hop
      have n18:=hS.new2 18 162 (by kernel_rfl) (pre_at hpre 18 (by kernel_rfl)) (by rw [hz];decide)
      simp only [cutV] at n18
      go_simp
      exact hK _ _ ⟨(),fun _=>rfl,fun _ _ _=>rfl,hI⟩
    | 20=>
      simp only [cutOps,List.getElem?_toArray,List.getElem?_cons_zero,List.getElem?_cons_succ,Option.some.injEq] at hop
      subst hop
      have n19:=hS.new2 19 163 (by kernel_rfl) (pre_at hpre 19 (by kernel_rfl)) (by rw [hz];decide)
      simp only [cutV] at n19
      go_simp
      exact hK _ _ ⟨(),fun _=>rfl,fun _ _ _=>rfl,hI⟩
    | 21=>
      simp only [cutOps,List.getElem?_toArray,List.getElem?_cons_zero,List.getElem?_cons_succ,Option.some.injEq] at hop
      subst hop
      have n20:=hS.new2 20 164 (by kernel_rfl) (pre_at hpre 20 (by kernel_rfl)) (by rw [hz];decide)
      simp only [cutV] at n20
      have hno:L 41=false:=by cases h:L 41 with | false=>rfl | true=>exact absurd (hC.at 41 21 (by kernel_rfl) h) (by simp [hLi])
      have hcell:=(seven_cells hb).2.2.1
      simp only [pick3,hno,Bool.false_eq_true,if_false] at hcell
      go_simp
      exact hK _ _ ⟨(),fun _=>rfl,fun _ _ _=>rfl,hI⟩
    | 22=>
      simp only [cutOps,List.getElem?_toArray,List.getElem?_cons_zero,List.getElem?_cons_succ,Option.some.injEq] at hop
      subst hop
      have n21:=hS.new2 21 165 (by kernel_rfl) (pre_at hpre 21 (by kernel_rfl)) (by rw [hz];decide)
      simp only [cutV] at n21
      go_simp
      exact hK _ _ ⟨(),fun _=>rfl,fun _ _ _=>rfl,hI⟩
    | 23=>
      simp only [cutOps,List.getElem?_toArray,List.getElem?_cons_zero,List.getElem?_cons_succ,Option.some.injEq] at hop
      subst hop
      have n22:=hS.new2 22 166 (by kernel_rfl) (pre_at hpre 22 (by kernel_rfl)) (by rw [hz];decide)
      simp only [cutV] at n22
      go_simp
      exact hK _ _ ⟨(),fun _=>rfl,fun _ _ _=>rfl,hI⟩
    | 24=>
      simp only [cutOps,List.getElem?_toArray,List.getElem?_cons_zero,List.getElem?_cons_succ,Option.some.injEq] at hop
      subst hop
      have n17:=hS.new2 17 161 (by kernel_rfl) (pre_at hpre 17 (by kernel_rfl)) (by rw [hz];decide)
      simp only [cutV] at n17
      have n23:=hS.new2 23 167 (by kernel_rfl) (pre_at hpre 23 (by kernel_rfl)) (by rw [hz];decide)
      simp only [cutV] at n23
      go_simp
      exact hK _ _ ⟨(),fun _=>rfl,fun _ _ _=>rfl,hI⟩
    | 25=>
      simp only [cutOps,List.getElem?_toArray,List.getElem?_cons_zero,List.getElem?_cons_succ,Option.some.injEq] at hop
      subst hop
      go_simp
      exact hK _ _ ⟨(),fun _=>rfl,fun _ _ _=>rfl,hI⟩
    | 26=>
      simp only [cutOps,List.getElem?_toArray,List.getElem?_cons_zero,List.getElem?_cons_succ,Option.some.injEq] at hop
      subst hop
      have n25:=hS.new2 25 169 (by kernel_rfl) (pre_at hpre 25 (by kernel_rfl)) (by rw [hz];decide)
      simp only [cutV] at n25
      go_simp
      exact hK _ _ ⟨(),fun _=>rfl,fun _ _ _=>rfl,hI⟩
    | 27=>
      simp only [cutOps,List.getElem?_toArray,List.getElem?_cons_zero,List.getElem?_cons_succ,Option.some.injEq] at hop
      subst hop
      have n26:=hS.new2 26 170 (by kernel_rfl) (pre_at hpre 26 (by kernel_rfl)) (by rw [hz];decide)
      simp only [cutV] at n26
      go_simp
      exact hK _ _ ⟨(),fun _=>rfl,fun _ _ _=>rfl,hI⟩
    | 28=>
      simp only [cutOps,List.getElem?_toArray,List.getElem?_cons_zero,List.getElem?_cons_succ,Option.some.injEq] at hop
      subst hop
      have n27:=hS.new2 27 171 (by kernel_rfl) (pre_at hpre 27 (by kernel_rfl)) (by rw [hz];decide)
      simp only [cutV] at n27
      have hno:L 44=false:=by cases h:L 44 with | false=>rfl | true=>exact absurd (hC.at 44 28 (by kernel_rfl) h) (by simp [hLi])
      have hcell:=(seven_cells hb).2.2.2.1
      simp only [pick3,hno,Bool.false_eq_true,if_false] at hcell
      go_simp
      exact hK _ _ ⟨(),fun _=>rfl,fun _ _ _=>rfl,hI⟩
    | 29=>
      simp only [cutOps,List.getElem?_toArray,List.getElem?_cons_zero,List.getElem?_cons_succ,Option.some.injEq] at hop
      subst hop
      go_simp
      exact hK _ _ ⟨(),fun _=>rfl,fun _ _ _=>rfl,hI⟩
    | 30=>
      simp only [cutOps,List.getElem?_toArray,List.getElem?_cons_zero,List.getElem?_cons_succ,Option.some.injEq] at hop
      subst hop
      have n29:=hS.new2 29 173 (by kernel_rfl) (pre_at hpre 29 (by kernel_rfl)) (by rw [hz];decide)
      simp only [cutV] at n29
      go_simp
      exact hK _ _ ⟨(),fun _=>rfl,fun _ _ _=>rfl,hI⟩
    | 31=>
      simp only [cutOps,List.getElem?_toArray,List.getElem?_cons_zero,List.getElem?_cons_succ,Option.some.injEq] at hop
      subst hop
      have n30:=hS.new2 30 174 (by kernel_rfl) (pre_at hpre 30 (by kernel_rfl)) (by rw [hz];decide)
      simp only [cutV] at n30
      go_simp
      exact hK _ _ ⟨(),fun _=>rfl,fun _ _ _=>rfl,hI⟩
    | 32=>
      simp only [cutOps,List.getElem?_toArray,List.getElem?_cons_zero,List.getElem?_cons_succ,Option.some.injEq] at hop
      subst hop
      have n31:=hS.new2 31 175 (by kernel_rfl) (pre_at hpre 31 (by kernel_rfl)) (by rw [hz];decide)
      simp only [cutV] at n31
      have hno:L 44=false:=by cases h:L 44 with | false=>rfl | true=>exact absurd (hC.at 44 32 (by kernel_rfl) h) (by simp [hLi])
      have hcell:=(seven_cells hb).2.2.2.1
      simp only [pick3,hno,Bool.false_eq_true,if_false] at hcell
      go_simp
      exact hK _ _ ⟨(),fun _=>rfl,fun _ _ _=>rfl,hI⟩
    | 33=>
      simp only [cutOps,List.getElem?_toArray,List.getElem?_cons_zero,List.getElem?_cons_succ,Option.some.injEq] at hop
      subst hop
      have n32:=hS.new2 32 176 (by kernel_rfl) (pre_at hpre 32 (by kernel_rfl)) (by rw [hz];decide)
      simp only [cutV] at n32
      go_simp
      exact hK _ _ ⟨(),fun _=>rfl,fun _ _ _=>rfl,hI⟩
    | 34=>
      simp only [cutOps,List.getElem?_toArray,List.getElem?_cons_zero,List.getElem?_cons_succ,Option.some.injEq] at hop
      subst hop
      have n33:=hS.new2 33 177 (by kernel_rfl) (pre_at hpre 33 (by kernel_rfl)) (by rw [hz];decide)
      simp only [cutV] at n33
      go_simp
      exact hK _ _ ⟨(),fun _=>rfl,fun _ _ _=>rfl,hI⟩
    | 35=>
      simp only [cutOps,List.getElem?_toArray,List.getElem?_cons_zero,List.getElem?_cons_succ,Option.some.injEq] at hop
      subst hop
      have n28:=hS.new2 28 172 (by kernel_rfl) (pre_at hpre 28 (by kernel_rfl)) (by rw [hz];decide)
      simp only [cutV] at n28
      have n34:=hS.new2 34 178 (by kernel_rfl) (pre_at hpre 34 (by kernel_rfl)) (by rw [hz];decide)
      simp only [cutV] at n34
      go_simp
      exact hK _ _ ⟨(),fun _=>rfl,fun _ _ _=>rfl,hI⟩
    | 36=>
      simp only [cutOps,List.getElem?_toArray,List.getElem?_cons_zero,List.getElem?_cons_succ,Option.some.injEq] at hop
      subst hop
      have n0:=hS.new2 0 144 (by kernel_rfl) (pre_at hpre 0 (by kernel_rfl)) (by rw [hz];decide)
      simp only [cutV] at n0
      go_simp
      exact hK _ _ ⟨(),fun _=>rfl,fun _ _ _=>rfl,hI⟩
    | 37=>
      simp only [cutOps,List.getElem?_toArray,List.getElem?_cons_zero,List.getElem?_cons_succ,Option.some.injEq] at hop
      subst hop
      have n36:=hS.new2 36 180 (by kernel_rfl) (pre_at hpre 36 (by kernel_rfl)) (by rw [hz];decide)
      simp only [cutV] at n36
      go_simp
      exact hK _ _ ⟨(),fun _=>rfl,fun _ _ _=>rfl,hI⟩
    | 38=>
      simp only [cutOps,List.getElem?_toArray,List.getElem?_cons_zero,List.getElem?_cons_succ,Option.some.injEq] at hop
      subst hop
      have n37:=hS.new2 37 181 (by kernel_rfl) (pre_at hpre 37 (by kernel_rfl)) (by rw [hz];decide)
      simp only [cutV] at n37
      have n13:=hS.new2 13 157 (by kernel_rfl) (pre_at hpre 13 (by kernel_rfl)) (by rw [hz];decide)
      simp only [cutV] at n13
      have hfz:=Lib.frozen_of_heap hb 1
      have hcs:=(seven_cells hb).2.1
      go_simp
      refine hK undef _ ⟨(),fun h=>absurd rfl h,fun _ _ _=>rfl,?_⟩
      exact CInv.put hI 1 _ (by simp [pick3])
    | 39=>
      simp only [cutOps,List.getElem?_toArray,List.getElem?_cons_zero,List.getElem?_cons_succ,Option.some.injEq] at hop
      subst hop
      have n1:=hS.new2 1 145 (by kernel_rfl) (pre_at hpre 1 (by kernel_rfl)) (by rw [hz];decide)
      simp only [cutV] at n1
      go_simp
      exact hK _ _ ⟨(),fun _=>rfl,fun _ _ _=>rfl,hI⟩
    | 40=>
      simp only [cutOps,List.getElem?_toArray,List.getElem?_cons_zero,List.getElem?_cons_succ,Option.some.injEq] at hop
      subst hop
      have n39:=hS.new2 39 182 (by kernel_rfl) (pre_at hpre 39 (by kernel_rfl)) (by rw [hz];decide)
      simp only [cutV] at n39
      go_simp
      exact hK _ _ ⟨(),fun _=>rfl,fun _ _ _=>rfl,hI⟩
    | 41=>
      simp only [cutOps,List.getElem?_toArray,List.getElem?_cons_zero,List.getElem?_cons_succ,Option.some.injEq] at hop
      subst hop
      have n40:=hS.new2 40 183 (by kernel_rfl) (pre_at hpre 40 (by kernel_rfl)) (by rw [hz];decide)
      simp only [cutV] at n40
      have n24:=hS.new2 24 168 (by kernel_rfl) (pre_at hpre 24 (by kernel_rfl)) (by rw [hz];decide)
      simp only [cutV] at n24
      have hfz:=Lib.frozen_of_heap hb 2
      have hcs:=(seven_cells hb).2.2.1
      go_simp
      refine hK undef _ ⟨(),fun h=>absurd rfl h,fun _ _ _=>rfl,?_⟩
      exact CInv.put hI 2 _ (by simp [pick3])
    | 42=>
      simp only [cutOps,List.getElem?_toArray,List.getElem?_cons_zero,List.getElem?_cons_succ,Option.some.injEq] at hop
      subst hop
      have n2:=hS.new2 2 146 (by kernel_rfl) (pre_at hpre 2 (by kernel_rfl)) (by rw [hz];decide)
      simp only [cutV] at n2
      go_simp
      exact hK _ _ ⟨(),fun _=>rfl,fun _ _ _=>rfl,hI⟩
    | 43=>
      simp only [cutOps,List.getElem?_toArray,List.getElem?_cons_zero,List.getElem?_cons_succ,Option.some.injEq] at hop
      subst hop
      have n42:=hS.new2 42 184 (by kernel_rfl) (pre_at hpre 42 (by kernel_rfl)) (by rw [hz];decide)
      simp only [cutV] at n42
      go_simp
      exact hK _ _ ⟨(),fun _=>rfl,fun _ _ _=>rfl,hI⟩
    | 44=>
      simp only [cutOps,List.getElem?_toArray,List.getElem?_cons_zero,List.getElem?_cons_succ,Option.some.injEq] at hop
      subst hop
      have n43:=hS.new2 43 185 (by kernel_rfl) (pre_at hpre 43 (by kernel_rfl)) (by rw [hz];decide)
      simp only [cutV] at n43
      have n35:=hS.new2 35 179 (by kernel_rfl) (pre_at hpre 35 (by kernel_rfl)) (by rw [hz];decide)
      simp only [cutV] at n35
      have hfz:=Lib.frozen_of_heap hb 3
      have hcs:=(seven_cells hb).2.2.2.1
      go_simp
      refine hK undef _ ⟨(),fun h=>absurd rfl h,fun _ _ _=>rfl,?_⟩
      exact CInv.put hI 3 _ (by simp [pick3])
    | n+45=>simp [cutOps] at hop
theorem MakerAt.setS {B bm:Nat} {E:Env} {ns:List UInt8} {w:World} (h:MakerAt B bm E ns w) {r:Nat} {cs:Array Value} {fr:Nat × Nat} (hr:w.heap[r]?=some (.cells cs 45 fr)) (hB:B<=r) (off:Nat) (u:Value):MakerAt B bm E ns (w.setCell ⟨r,off,none⟩ u):=by
  obtain ⟨h1,nv,lv,sv,cv,h2,h3,h4,h5,h6,h7⟩:=h
  have hne:bm≠r:=fun e=>by subst e;rw [hr] at h2;simp at h2
  have hg:w.grownBy (w.setCell ⟨r,off,none⟩ u) (some r):=set_grown w r off u
  exact ⟨h1,nv,lv,sv,cv,(Below.heap_setCell _ _ _ _ hne).trans h2,h3.on fun k hk=>Below.heap_setCell _ _ _ _ (show k≠r by omega),h4.kept hg (.inr (Lib.ownBlock_ne h4 hr (by decide))),h5.kept hg (.inr (Lib.ownBlock_ne h5 hr (by decide))),h6.kept hg (.inr (Lib.ownBlock_ne h6 hr (by decide))),h7⟩
theorem Stms.far {lo hi n r off:Nat} {w:World} {u v:Value} {ss:List Stm} (h:Stms lo hi w (fun v' s'=>SRep lo hi w 13 n v' s') v ss) (hr:r<lo):Stms lo hi (w.setCell ⟨r,off,none⟩ u) (fun v' s'=>SRep lo hi (w.setCell ⟨r,off,none⟩ u) 13 n v' s') v ss:=by
  have h35:Same35 lo hi w (w.setCell ⟨r,off,none⟩ u):=fun g cs fr h1 _ hc=>(Below.heap_setCell _ _ _ _ (show g≠r by omega)).trans hc
  have h45:Same45 lo hi w (w.setCell ⟨r,off,none⟩ u):=fun g cs fr h1 _ hc=>(Below.heap_setCell _ _ _ _ (show g≠r by omega)).trans hc
  exact h.carry (Nat.le_refl _) (Nat.le_refl _) h45 fun _ _ hr=>hr.carry (Nat.le_refl _) (Nat.le_refl _) h35 h45
theorem for_end {B bm n g a b' m:Nat} {w w5 w6 w7:World} {E:Env} {ns:List UInt8} {b:List Stm} {bao lao sao cao:Option Addr} {bcap lcap scap ccap:Nat} {c:Int} {nv:Value} (hB:B<=w.heap.size) (hK5:KeepM B w w5) (hS5:Stms a b' w5 (fun v' s'=>SRep a b' w5 13 n v' s') (.slice bao b.length bcap) b) (ha:w.heap.size<=a) (hb':b'<=w5.heap.size)
    (hM5:MakerAt B bm (enterE E false c) ns w5) (hfull:fullE E) (hm:m=E.loc.length+1) (h2:w5.heap[bm]?=some (.cells #[nv,.slice lao m lcap,.slice sao m scap,.slice cao m ccap,.bool E.held,.int .i64 E.thread,.int .i64 E.deep] 92 (0,0)))
    (hG:w5.grownBy w6 (some bm)) (hb6:w6.heap[bm]?=some (.cells #[nv,.slice lao E.loc.length lcap,.slice sao E.loc.length scap,.slice cao E.loc.length ccap,.bool E.held,.int .i64 E.thread,.int .i64 E.deep] 92 (0,0))) (hb7:Below w6.heap.size w6 w7) (hgl:w6.heap.size<=g)
    (hg7:w7.heap[g]?=some (.cells #[.int .i64 4,.string (nameX E),.slice none 0 0,.int .i64 c,.slice bao b.length bcap,.slice none 0 0,.int .i64 0] 45 (0,0))) (hc0:0<=c) (hc1:c<=1000):
    MadeS B bm (n+1) w ([⟨4,nameX E,[],c,b,[],0⟩],E,ns) (.returned (.slice (some ⟨g,0,none⟩) 1 1)) w7:=by
  have el:(enterE E false c).loc.length=E.loc.length+1:=by simp [enterE]
  have hd:E.deep<=100:=by
    obtain ⟨_,_,_,_,_,_,_,_,_,_,_,h8,_⟩:=hM5
    exact h8
  have hM6:MakerAt B bm { cutE (enterE E false c) E.loc.length with deep:=E.deep } ns w6:=hM5.cut_of (n:=E.loc.length) (d:=E.deep) (by rw [el,<- hm];exact h2) hG hb6 (by omega) hd
  have e:({ cutE (enterE E false c) E.loc.length with deep:=E.deep } : Env)=E:=by
    rw [cutE_grow hfull (growE.enter E false c)]
  rw [e] at hM6
  have hK6:=KeepM.of_grown hM5 hG
  have z5:=hK5.size
  have z6:=hK6.size
  have hK7:KeepM B w6 w7:=KeepM.of_below (by omega) hb7
  refine made_fin ((hK5.trans hK6).trans hK7) (hM6.below hb7) hg7 (by omega) ⟨by simp;omega,by simp;omega,by simp [nameX,ByteArray.size],none,0,bao,bcap,none,0,rfl,kids0,?_,stms0⟩
  exact hS5.keep ha hb' (hK6.trans hK7)
theorem stmt_loop {f:Nat} (ih:MStmtC f) (B bm:Nat) (E:Env) (inside:Bool) (ns:List UInt8) (w:World) (hM:MakerAt B bm E ns w) (hf:6<=f+1+E.deep+heldN E) (hd1:1<=E.deep) (hd:E.deep<4) (hroom:roomE E) (hcase:nxV ns 12=5):
    Calls Tryz.prog 63 #[.pointer (some ⟨bm,0,none⟩),.bool inside] w (MadeS B bm (f+1) w (forM (stmtM f) inside E (1+nxV ns.tail 5) ns.tail.tail)):=by
  have hB:=hM.base
  have hth:=thread_cell hM
  have htl:=thread_le hM
  have H1:=next_any B bm E ns 12 _ hM (by omega) (by omega)
  have H2:=fun w' h=>next_any B bm E ns.tail 5 w' h (by omega) (by omega)
  have h5:=nxV_lt ns.tail 5 (by omega)
  have HM:=Lib.hid hM
  have hfull:=maker_full hM
  obtain ⟨k5,hk5⟩:∃ k,nxV ns.tail 5=k:=⟨_,rfl⟩
  rw [hk5] at H2 h5 ⊢
  have hc:((1+k5:Nat):Int)=1+(k5:Int):=by omega
  obtain ⟨b,m,hq⟩:∃ b m,blockM (stmtM f) inside (enterE E false (1+(k5:Int))) ns.tail.tail=(b,enterE E false (1+(k5:Int)),m):=⟨_,_,Prod.ext rfl (Prod.ext (block_env (fun E ns hf=>stmt_grow f inside E ns hf) _ _ (enter_full hfull _ _)) rfl)⟩
  have hgoal:forM (stmtM f) inside E (1+k5) ns.tail.tail=([⟨4,nameX E,[],1+(k5:Int),b,[],0⟩],E,m):=by simp only [forM,hc,hq]
  rw [hgoal]
  have hrm:roomE { enterE E false (1+(k5:Int)) with deep:=(enterE E false (1+(k5:Int))).deep+1 } := by
    unfold roomE at hroom ⊢
    simp only [enterE,List.length_append,List.length_cons,List.length_nil];omega
  have hdp:(enterE E false (1+(k5:Int))).deep=E.deep:=rfl
  have hhe:heldN (enterE E false (1+(k5:Int)))=heldN E:=rfl
  have hll:(enterE E false (1+(k5:Int))).loc.length=E.loc.length+1:=by simp [enterE]
  have PB:=fun w' h=>block_any ih B bm inside (enterE E false (1+(k5:Int))) ns.tail.tail w' h (by rw [hdp,hhe];omega) (by rw [hdp];omega) hrm
  rw [hq] at PB
  have hlen:E.loc.length<=99:=by unfold roomE at hroom;omega
  have hdI:(E.deep:Int)<4:=by omega
  rw [hcase] at H1
  have HF:=Lib.hid hfull
  have HLL:=Lib.hid hll
  clear hcase hq hgoal hM hk5 hrm hroom hfull hc hdp hhe hll
  go_enter Tryz.func63,Tryz.ntmps63
  go_wp2_with (first
    | (go_at_call 34;refine (digit_any E.thread htl _).mono ?_;rintro e w' ⟨rfl,rfl⟩)
    | (go_at_call 35;refine (PB _ (hM3.out.alloc _)).mono ?_;rintro e w4 ⟨v4,rfl,hS4,hM4,hK4⟩;obtain ⟨bao,bcap,rfl,_⟩:=id hS4;have hbx4:=hK4.2 w3.heap.size _ _ _ (heap_alloc_new w3 _) (by decide) (by decide) (by decide) (by decide);have fz4:=Lib.frozen_of_heap hbx4 4;obtain ⟨s0,s1,s2,s3,s4,s5,s6⟩:=stmt_cells hbx4;replace hbx4:=Lib.hid hbx4;replace hS4:=Lib.hid hS4;replace hM4:=Lib.hid hM4;replace hK4:=Lib.hid hK4)
    | (go_at_call 93;refine (enter_any B bm E ns.tail.tail false (1+(k5:Int)) w2 hM2.out hlen).mono ?_;rintro e w3 ⟨rfl,hM3,hK3⟩;replace hM3:=Lib.hid hM3;replace hK3:=Lib.hid hK3)
    | (go_at_call 33;refine (H2 w1 hM1.out).mono ?_;rintro e w2 ⟨rfl,hM2,hg2⟩;replace hM2:=Lib.hid hM2)
    | (go_at_call 33;refine H1.mono ?_;rintro e w1 ⟨rfl,hM1,hg1⟩;obtain ⟨lao,lcap,hlc,_⟩:=locals_cell hM1;have hdc:=mdeep_cell hM1;have hhc:=held_cell hM1;replace hM1:=Lib.hid hM1))
  have hKw2:=(KeepM.of_grown HM.out hg1).trans (KeepM.of_grown hM1.out hg2)
  have z2:=hKw2.size
  have z3:=hK3.out.size
  have z4:=hK4.out.size
  rw [alloc_size] at z4
  have hM5:=hM4.out.setS hbx4.out (by omega) 4 (.slice bao b.length bcap)
  have hK5:=(((hKw2.trans hK3.out).alloc (by omega) _).trans hK4.out).grow hB (set_grown w4 w3.heap.size 4 (.slice bao b.length bcap)) (fun k hk=>by cases hk;omega)
  have hS5:=hS4.out.far (r:=w3.heap.size) (off:=4) (u:=.slice bao b.length bcap) (by rw [alloc_size];omega)
  have hb5:=set_heap hbx4.out 4 (.slice bao b.length bcap)
  have hz5:w4.heap.size<=(w4.setCell ⟨w3.heap.size,4,none⟩ (.slice bao b.length bcap)).heap.size:=by simp [World.setCell]
  have hne:bm≠w3.heap.size:=by have:=hM3.out.lt;omega
  generalize w4.setCell ⟨w3.heap.size,4,none⟩ (.slice bao b.length bcap)=w5 at *
  obtain ⟨nv,la,lc,sa,sc,ca,cc,hb2,q1,q2,q3⟩:=hM5.slices
  rw [HLL.out] at hb2 q1 q2 q3
  have HB5:Hid (w5.heap[w3.heap.size]?=some (.cells #[.int .i64 4,.string (nameX E),.slice none 0 0,.int .i64 (1+(k5:Int)),.slice bao b.length bcap,.slice none 0 0,.int .i64 0] 45 (0,0))):=hb5
  have hne':w3.heap.size≠bm:=fun e=>hne e.symm
  have HM5:=Lib.hid hM5
  have HK5:=Lib.hid hK5
  have HS5:=Lib.hid hS5
  have HB2:=Lib.hid hb2
  clear hM5 hK5 hS5 hb2 hb5 s0 s1 s2 s3 s4 s5 s6 fz4
  go_wp2
  refine cut_region ⟨bm,w5,nv,la,lc,sa,sc,ca,cc,E.loc.length+1,E.loc.length,E.held,E.thread,E.deep⟩ ⟨grownBy_refl _ _,HB2.out⟩ (by rfl) (by rfl) (by simp) (by simp;omega) (by simp) q1 q2 q3 ?_
  rintro w6 ⟨hG6,hb6⟩
  have HG6:=Lib.hid hG6
  have HB6:=Lib.hid hb6
  have u:w6.heap[w3.heap.size]?=some (.cells #[.int .i64 4,.string (nameX E),.slice none 0 0,.int .i64 (1+(k5:Int)),.slice bao b.length bcap,.slice none 0 0,.int .i64 0] 45 (0,0)):=(hG6.block _ (heap_lt HB5.out) (by simpa using hne')).trans HB5.out
  obtain ⟨t0,t1,t2,t3,t4,t5,t6⟩:=stmt_cells u
  clear hG6 hb6 u
  rw [writeAll_cut]
  simp only [cutV,List.setIfInBounds_toArray,List.set_cons_zero,List.set_cons_succ]
  go_wp2_with (go_at_call 91;refine (one_any _ _ _ _ _ _ _ _ _ _ _ _ _ _).mono ?_;rintro e w7 ⟨g,rfl,hgl,hgr,hg7,hb7⟩)
  go_ret
  exact for_end hB HK5.out HS5.out (by rw [alloc_size];omega) hz5 HM5.out HF.out rfl HB2.out HG6.out (by simpa [pick3] using HB6.out) hb7 hgl hg7 (by omega) (by omega)
end Go.Proofs.YtlepckjmdjjolaaGreatDoor
